import PyProof.Rows.All
import Wide.All
import OpenK.AllK
import Wide.FinOn
import HandS.ForMost
import HandS.ForExc
import HandS.Evl
import HandS.TupAny
import HandS.IsInst
import HandS.Style
import HandS.ExcInit
import HandS.ExcField
import HandS.ExcIs
import HandS.TryMany
import KE.KDictKeyed
import HandS.CallSlots
import HandS.CallRecv
import PyProof.StrOps2
import PyProof.ListIndexNeg
import KE.GoesEnum
import KE.DataEq
import HandS.Deep
import KE.LtData
import HandS.Dict
import HandS.DictComp
import HandS.Conv
import KE.SortKeyHeap
import KE.DataMinKey
import HandS.SortKw
import PySem.Challenge.RW_stoodthere_k14_whole_order_of_all_trees
set_option Elab.async false
set_option linter.all false
set_option maxRecDepth 100000
set_option maxHeartbeats 1000000
/-! data, described apart from the heap; what is mutable stands in a map of its own -/
namespace AL
open PySem L2 Evl
inductive D where
  | non | bl (b : Bool) | int (i : Int) | str (x : Str) | box (a : Addr) | ty (n : String) | tup (ds : List D) | lst (ds : List D) | scr (ns : List Int)
mutual
def Den (K : PySem.W.Frag) (S : Hp) : D → V → Prop
  | .non, v => v = .non
  | .bl b, v => v = .bl b
  | .int i, v => v = .int i
  | .str x, v => v = .str x
  | .box a, v => v = .ref a
  | .ty n, v => v = .ty n
  | .tup ds, v => ∃ a vs, v = .ref a ∧ SqT K S a vs ∧ DenL K S ds vs
  | .lst ds, v => ∃ a vs, v = .ref a ∧ S a = some (.lst vs) ∧ DenL K S ds vs
  | .scr ns, v => ∃ a, v = .ref a ∧ SqL K S a (ns.map V.int)
def DenL (K : PySem.W.Frag) (S : Hp) : List D → List V → Prop
  | [], vs => vs = []
  | d :: ds, vs => ∃ v r, vs = v :: r ∧ Den K S d v ∧ DenL K S ds r
end
section
variable {K : PySem.W.Frag} {S S' : Hp}
mutual
theorem Den.mono (e : Ex S S') : ∀ (d : D) (v : V), Den K S d v → Den K S' d v
  | .non, _, h => h
  | .bl _, _, h => h
  | .int _, _, h => h
  | .str _, _, h => h
  | .box _, _, h => h
  | .ty _, _, h => h
  | .tup ds, _, ⟨a, vs, h1, h2, h3⟩ => ⟨a, vs, h1, ex_t e h2, DenL.mono e ds vs h3⟩
  | .lst ds, _, ⟨a, vs, h1, h2, h3⟩ => ⟨a, vs, h1, e a _ h2, DenL.mono e ds vs h3⟩
  | .scr ns, _, ⟨a, h1, h2⟩ => ⟨a, h1, ex_l e h2⟩
theorem DenL.mono (e : Ex S S') : ∀ (ds : List D) (vs : List V), DenL K S ds vs → DenL K S' ds vs
  | [], _, h => h
  | d :: ds, _, ⟨v, r, h1, h2, h3⟩ => ⟨v, r, h1, Den.mono e d v h2, DenL.mono e ds r h3⟩
end
theorem DenL.len : ∀ {ds : List D} {vs : List V}, DenL K S ds vs → vs.length = ds.length
  | [], _, h => by
    rw [show _ = [] from h]
    rfl
  | d :: ds, _, ⟨v, r, h1, _, h3⟩ => by
    rw [h1, List.length_cons, List.length_cons, DenL.len h3]
theorem DenL.get : ∀ {ds : List D} {vs : List V} {i : Nat} {d : D}, DenL K S ds vs → ds[i]? = some d → ∃ v, vs[i]? = some v ∧ Den K S d v
  | d :: ds, _, 0, _, ⟨v, r, h1, h2, h3⟩, e => by
    subst h1
    rw [List.getElem?_cons_zero] at e
    cases e
    exact ⟨v, rfl, h2⟩
  | d :: ds, _, i + 1, _, ⟨v, r, h1, h2, h3⟩, e => by
    subst h1
    rw [List.getElem?_cons_succ] at e
    obtain ⟨w, hw, hd⟩ := DenL.get h3 e
    exact ⟨w, by rw [List.getElem?_cons_succ]; exact hw, hd⟩
theorem DenL.getV : ∀ {ds : List D} {vs : List V} {i : Nat} {v : V}, DenL K S ds vs → vs[i]? = some v → ∃ d, ds[i]? = some d ∧ Den K S d v
  | [], _, i, v, h, e => by
    rw [show _ = [] from h] at e
    cases e
  | d :: ds, _, 0, _, ⟨v, r, h1, h2, h3⟩, e => by
    subst h1
    rw [List.getElem?_cons_zero] at e
    cases e
    exact ⟨d, rfl, h2⟩
  | d :: ds, _, i + 1, _, ⟨v, r, h1, h2, h3⟩, e => by
    subst h1
    rw [List.getElem?_cons_succ] at e
    obtain ⟨w, hw, hd⟩ := DenL.getV h3 e
    exact ⟨w, by rw [List.getElem?_cons_succ]; exact hw, hd⟩
theorem DenL.app : ∀ {ds es : List D} {vs ws : List V}, DenL K S ds vs → DenL K S es ws → DenL K S (ds ++ es) (vs ++ ws)
  | [], _, _, _, h, g => by
    rw [show _ = [] from h]
    exact g
  | d :: ds, _, _, _, ⟨v, r, h1, h2, h3⟩, g => by
    subst h1
    exact ⟨v, r ++ _, rfl, h2, DenL.app h3 g⟩
theorem DenL.ints : ∀ (ns : List Int), DenL K S (ns.map D.int) (ns.map V.int)
  | [] => rfl
  | n :: ns => ⟨.int n, _, rfl, rfl, DenL.ints ns⟩
theorem DenL.one {d : D} {v : V} (h : Den K S d v) : DenL K S [d] [v] := ⟨v, [], rfl, h, rfl⟩
theorem DenL.take : ∀ {ds : List D} {vs : List V} (n : Nat), DenL K S ds vs → DenL K S (ds.take n) (vs.take n)
  | _, _, 0, h => rfl
  | [], _, n + 1, h => by
    rw [show _ = [] from h]
    rfl
  | d :: ds, _, n + 1, ⟨v, r, h1, h2, h3⟩ => by
    subst h1
    exact ⟨v, r.take n, rfl, h2, DenL.take n h3⟩
theorem DenL.drop : ∀ {ds : List D} {vs : List V} (n : Nat), DenL K S ds vs → DenL K S (ds.drop n) (vs.drop n)
  | _, _, 0, h => h
  | [], _, n + 1, h => by
    rw [show _ = [] from h]
    rfl
  | d :: ds, _, n + 1, ⟨v, r, h1, h2, h3⟩ => by
    subst h1
    exact DenL.drop n h3
theorem DenL.set : ∀ {ds : List D} {vs : List V} (n : Nat) {d : D} {v : V}, DenL K S ds vs → Den K S d v → DenL K S (ds.set n d) (vs.set n v)
  | [], _, n, _, _, h, _ => by
    rw [show _ = [] from h]
    rfl
  | d :: ds, _, 0, _, _, ⟨v, r, h1, h2, h3⟩, g => by
    subst h1
    exact ⟨_, r, rfl, g, h3⟩
  | d :: ds, _, n + 1, _, _, ⟨v, r, h1, h2, h3⟩, g => by
    subst h1
    exact ⟨v, r.set n _, rfl, h2, DenL.set n h3 g⟩
theorem DenL.rev : ∀ {ds : List D} {vs : List V}, DenL K S ds vs → DenL K S ds.reverse vs.reverse
  | [], _, h => by
    rw [show _ = [] from h]
    rfl
  | d :: ds, _, ⟨v, r, h1, h2, h3⟩ => by
    subst h1
    rw [List.reverse_cons, List.reverse_cons]
    exact DenL.app (DenL.rev h3) (DenL.one h2)
theorem DenL.dropLast {ds : List D} {vs : List V} (h : DenL K S ds vs) : DenL K S ds.dropLast vs.dropLast := by
  rw [List.dropLast_eq_take, List.dropLast_eq_take, h.len]
  exact DenL.take _ h
theorem DenL.atI {ds : List D} {vs : List V} {i : Int} {d : D} (h : DenL K S ds vs) (e : L2.atI ds i = some d) : ∃ v, L2.atI vs i = some v ∧ Den K S d v := by
  unfold L2.atI at e ⊢
  rw [h.len]
  cases q : ixN ds.length i with
  | none =>
    rw [q] at e
    cases e
  | some j =>
    rw [q] at e
    exact DenL.get h e
theorem DenL.cut {ds : List D} {vs : List V} {lo hi : Option Int} (h : DenL K S ds vs) : DenL K S ((ds.drop (HT.sIx ds.length 0 lo)).take (HT.sIx ds.length ds.length hi - HT.sIx ds.length 0 lo)) (cutV vs lo hi) := by
  unfold cutV
  rw [h.len]
  exact DenL.take _ (DenL.drop _ h)
end
/-! ### keys of a dict -/
mutual
def keyD : D → Option NestedKey
  | .non => some .none
  | .int i => some (.num i)
  | .str x => some (.text x)
  | .tup ds => match keyDs ds with
    | some ks => some (.tup ks)
    | none => none
  | .bl _ => none
  | .box _ => none
  | .ty _ => none
  | .lst _ => none
  | .scr _ => none
def keyDs : List D → Option (List NestedKey)
  | [] => some []
  | d :: ds => match keyD d with
    | some k => match keyDs ds with
      | some ks => some (k :: ks)
      | none => none
    | none => none
end
/-! ### what is mutable -/
abbrev KL := List (NestedKey × Addr × V)
inductive MO where
  | lst (ds : List D) | ins (C dx : Addr) (fs : List (Str × D)) | dic (mk : KL → HO) (kvs : List (NestedKey × D × D))
abbrev Mu := Addr → Option MO
def mset (m : Mu) (a : Addr) (o : MO) : Mu := fun b => if b = a then some o else m b
def mdel (m : Mu) (a : Addr) : Mu := fun b => if b = a then none else m b
theorem mset_same {m : Mu} {a : Addr} {o : MO} : mset m a o a = some o := if_pos rfl
theorem mset_ne {m : Mu} {a b : Addr} {o : MO} (h : b ≠ a) : mset m a o b = m b := if_neg h
theorem mdel_same {m : Mu} {a : Addr} : mdel m a a = none := if_pos rfl
theorem mdel_ne {m : Mu} {a b : Addr} (h : b ≠ a) : mdel m a b = m b := if_neg h
theorem mset_mset {m : Mu} {a : Addr} {o u : MO} : mset (mset m a o) a u = mset m a u := by
  funext b
  unfold mset
  split <;> rfl
theorem mset_comm {m : Mu} {a b : Addr} {o u : MO} (h : a ≠ b) : mset (mset m a o) b u = mset (mset m b u) a o := by
  funext c
  unfold mset
  by_cases h1 : c = b
  · rw [if_pos h1, if_neg (fun q => h (q.symm.trans h1)), if_pos h1]
  · rw [if_neg h1, if_neg h1]
theorem mdel_mset {m : Mu} {a : Addr} {o : MO} (h : m a = none) : mdel (mset m a o) a = m := by
  funext b
  unfold mdel mset
  by_cases h1 : b = a
  · rw [if_pos h1, h1, h]
  · rw [if_neg h1, if_neg h1]
theorem mdel_mset_ne {m : Mu} {a b : Addr} {o : MO} (h : a ≠ b) : mdel (mset m a o) b = mset (mdel m b) a o := by
  funext c
  by_cases h1 : c = b
  · subst h1
    rw [mdel_same, mset_ne (Ne.symm h), mdel_same]
  · rw [mdel_ne h1]
    by_cases h2 : c = a
    · subst h2
      rw [mset_same, mset_same]
    · rw [mset_ne h2, mset_ne h2, mdel_ne h1]
theorem mset_self {m : Mu} {a : Addr} {o : MO} (h : m a = some o) : mset m a o = m := by
  funext b
  unfold mset
  by_cases h1 : b = a
  · rw [if_pos h1, h1, h]
  · rw [if_neg h1]
/-- the heap without what is mutable -/
def R (m : Mu) (H : Hp) : Hp := fun a => match m a with
  | none => H a
  | some _ => none
theorem R_none {m : Mu} {H : Hp} {a : Addr} (h : m a = none) : R m H a = H a := by
  unfold R
  rw [h]
theorem R_of {m : Mu} {H : Hp} {a : Addr} {o : HO} (h : R m H a = some o) : m a = none ∧ H a = some o := by
  unfold R at h
  split at h
  · exact ⟨by assumption, h⟩
  · cases h
def DenF (K : PySem.W.Frag) (S : Hp) : List (Str × D) → List (Str × V) → Prop
  | [], gs => gs = []
  | f :: fs, gs => ∃ v r, gs = (f.1, v) :: r ∧ Den K S f.2 v ∧ DenF K S fs r
theorem DenF.mono {K : PySem.W.Frag} {S S' : Hp} (e : Ex S S') : ∀ (fs : List (Str × D)) (gs : List (Str × V)), DenF K S fs gs → DenF K S' fs gs
  | [], _, h => h
  | f :: fs, _, ⟨v, r, h1, h2, h3⟩ => ⟨v, r, h1, Den.mono e f.2 v h2, DenF.mono e fs r h3⟩
theorem DenF.look {K : PySem.W.Frag} {S : Hp} : ∀ {fs : List (Str × D)} {gs : List (Str × V)} {f : Str} {d : D}, DenF K S fs gs → fs.lookup f = some d → ∃ v, gs.lookup f = some v ∧ Den K S d v
  | (n, e) :: fs, _, f, d, ⟨v, r, h1, h2, h3⟩, q => by
    subst h1
    rw [List.lookup_cons] at q
    rw [List.lookup_cons]
    cases z : f == n with
    | true =>
      rw [z] at q
      cases q
      exact ⟨v, rfl, h2⟩
    | false =>
      rw [z] at q
      exact DenF.look h3 q
theorem DenF.lookN {K : PySem.W.Frag} {S : Hp} : ∀ {fs : List (Str × D)} {gs : List (Str × V)} {f : Str}, DenF K S fs gs → fs.lookup f = none → gs.lookup f = none
  | [], _, f, h, q => by
    rw [show _ = [] from h]
    rfl
  | (n, e) :: fs, _, f, ⟨v, r, h1, h2, h3⟩, q => by
    subst h1
    rw [List.lookup_cons] at q
    rw [List.lookup_cons]
    cases z : f == n with
    | true =>
      rw [z] at q
      cases q
    | false =>
      rw [z] at q
      exact DenF.lookN h3 q
theorem DenF.len {K : PySem.W.Frag} {S : Hp} : ∀ {fs : List (Str × D)} {gs : List (Str × V)}, DenF K S fs gs → gs.length = fs.length
  | [], _, h => by
    rw [show _ = [] from h]
    rfl
  | f :: fs, _, ⟨v, r, h1, _, h3⟩ => by
    rw [h1, List.length_cons, List.length_cons, DenF.len h3]
def putD (f : Str) (d : D) : List (Str × D) → List (Str × D)
  | [] => [(f, d)]
  | (n, e) :: r => if n = f then (n, d) :: r else (n, e) :: putD f d r
theorem DenF.put {K : PySem.W.Frag} {S : Hp} {f : Str} {d : D} {v : V} (g : Den K S d v) : ∀ {fs : List (Str × D)} {gs : List (Str × V)}, DenF K S fs gs → DenF K S (putD f d fs) (putF f v gs)
  | [], _, h => by
    rw [show _ = [] from h]
    exact ⟨v, [], rfl, g, rfl⟩
  | (n, e) :: fs, _, ⟨w, r, h1, h2, h3⟩ => by
    subst h1
    show DenF K S (if n = f then (n, d) :: fs else (n, e) :: putD f d fs) (if n = f then (n, v) :: r else (n, w) :: putF f v r)
    by_cases z : n = f
    · rw [if_pos z, if_pos z]
      exact ⟨v, r, rfl, g, h3⟩
    · rw [if_neg z, if_neg z]
      exact ⟨w, _, rfl, h2, DenF.put g h3⟩
def DenK (K : PySem.W.Frag) (S : Hp) : List (NestedKey × D × D) → KL → Prop
  | [], L => L = []
  | p :: ps, L => ∃ q r, L = q :: r ∧ q.1 = p.1 ∧ keyD p.2.1 = some p.1 ∧ Den K S p.2.1 (.ref q.2.1) ∧ Den K S p.2.2 q.2.2 ∧ DenK K S ps r
theorem DenK.mono {K : PySem.W.Frag} {S S' : Hp} (e : Ex S S') : ∀ (ps : List (NestedKey × D × D)) (L : KL), DenK K S ps L → DenK K S' ps L
  | [], _, h => h
  | p :: ps, _, ⟨q, r, h1, h2, h3, h4, h5, h6⟩ => ⟨q, r, h1, h2, h3, Den.mono e _ _ h4, Den.mono e _ _ h5, DenK.mono e ps r h6⟩
theorem DenK.app {K : PySem.W.Frag} {S : Hp} : ∀ {ps qs : List (NestedKey × D × D)} {L M : KL}, DenK K S ps L → DenK K S qs M → DenK K S (ps ++ qs) (L ++ M)
  | [], _, _, _, h, g => by
    rw [show _ = [] from h]
    exact g
  | p :: ps, _, _, _, ⟨q, r, h1, h2, h3, h4, h5, h6⟩, g => by
    subst h1
    exact ⟨q, r ++ _, rfl, h2, h3, h4, h5, DenK.app h6 g⟩
theorem DenK.keys {K : PySem.W.Frag} {S : Hp} : ∀ {ps : List (NestedKey × D × D)} {L : KL}, DenK K S ps L → L.map (·.1) = ps.map (·.1)
  | [], _, h => by
    rw [show _ = [] from h]
    rfl
  | p :: ps, _, ⟨q, r, h1, h2, _, _, _, h6⟩ => by
    rw [h1, List.map_cons, List.map_cons, h2, DenK.keys h6]
theorem DenK.refs {K : PySem.W.Frag} {S : Hp} : ∀ {ps : List (NestedKey × D × D)} {L : KL}, DenK K S ps L → DenL K S (ps.map (·.2.1)) (L.map fun q => .ref q.2.1)
  | [], _, h => by
    rw [show _ = [] from h]
    rfl
  | p :: ps, _, ⟨q, r, h1, _, _, h4, _, h6⟩ => by
    subst h1
    exact ⟨_, _, rfl, h4, DenK.refs h6⟩
def MOk (K : PySem.W.Frag) (S H : Hp) (a : Addr) : MO → Prop
  | .dic mk kvs => ∃ L, H a = some (mk L) ∧ DenK K S kvs L
  | .lst ds => ∃ vs, H a = some (.lst vs) ∧ DenL K S ds vs
  | .ins C dx fs => ∃ gs, H a = some (.ins C dx gs) ∧ DenF K S fs gs
def Rep (K : PySem.W.Frag) (H : Hp) (m : Mu) : Prop := ∀ a o, m a = some o → MOk K (R m H) H a o
def Po (K : PySem.W.Frag) (m : Mu) (H : Hp) (m' : Mu) (H' : Hp) : Prop := Rep K H' m' ∧ Ex (R m H) (R m' H')
theorem Po.refl {K : PySem.W.Frag} {m : Mu} {H : Hp} (h : Rep K H m) : Po K m H m H := ⟨h, Ex.refl _⟩
theorem Po.trans {K : PySem.W.Frag} {m m1 m2 : Mu} {H H1 H2 : Hp} (a : Po K m H m1 H1) (b : Po K m1 H1 m2 H2) : Po K m H m2 H2 := ⟨b.1, a.2.trans b.2⟩
theorem MOk.mono {K : PySem.W.Frag} {S S' H H' : Hp} {a : Addr} {o : MO} (e : Ex S S') (h : H' a = H a) : MOk K S H a o → MOk K S' H' a o := by
  cases o with
  | lst ds =>
    rintro ⟨vs, h1, h2⟩
    exact ⟨vs, h.trans h1, DenL.mono e _ _ h2⟩
  | ins C dx fs =>
    rintro ⟨gs, h1, h2⟩
    exact ⟨gs, h.trans h1, DenF.mono e _ _ h2⟩
  | dic mk kvs =>
    rintro ⟨L, h1, h2⟩
    exact ⟨L, h.trans h1, DenK.mono e _ _ h2⟩
/-- a new object that is not to change -/
theorem Po.new {K : PySem.W.Frag} {m : Mu} {H : Hp} {p : Addr} {o : HO} (h : Rep K H m) (hp : H p = none) : Po K m H m (upd H p o) ∧ R m (upd H p o) p = some o := by
  have mp : m p = none := by
    cases q : m p with
    | none => rfl
    | some u =>
      have z := h p u q
      cases u with
      | lst ds =>
        obtain ⟨vs, h1, _⟩ := z
        rw [hp] at h1
        cases h1
      | ins C dx fs =>
        obtain ⟨vs, h1, _⟩ := z
        rw [hp] at h1
        cases h1
      | dic mk kvs =>
        obtain ⟨vs, h1, _⟩ := z
        rw [hp] at h1
        cases h1
  have e : Ex (R m H) (R m (upd H p o)) := fun a u ha => by
    obtain ⟨h1, h2⟩ := R_of ha
    rw [R_none h1, upd_ne (ne_of_none h2 hp)]
    exact h2
  refine ⟨⟨fun a u ha => ?_, e⟩, by rw [R_none mp, upd_same]⟩
  refine MOk.mono e (upd_ne fun z => ?_) (h a u ha)
  rw [z, mp] at ha
  cases ha
theorem Rep.fresh {K : PySem.W.Frag} {m : Mu} {H : Hp} {p : Addr} (h : Rep K H m) (hp : H p = none) : m p = none := by
  cases q : m p with
  | none => rfl
  | some u =>
    have z := h p u q
    cases u with
    | lst ds =>
      obtain ⟨vs, h1, _⟩ := z
      rw [hp] at h1
      cases h1
    | ins C dx fs =>
      obtain ⟨vs, h1, _⟩ := z
      rw [hp] at h1
      cases h1
    | dic mk kvs =>
      obtain ⟨vs, h1, _⟩ := z
      rw [hp] at h1
      cases h1
/-- a new list that is to change -/
theorem Po.newL {K : PySem.W.Frag} {m : Mu} {H : Hp} {p : Addr} {ds : List D} {vs : List V} (h : Rep K H m) (hp : H p = none) (d : DenL K (R m H) ds vs) : Po K m H (mset m p (.lst ds)) (upd H p (.lst vs)) := by
  have mp := h.fresh hp
  have e : Ex (R m H) (R (mset m p (.lst ds)) (upd H p (.lst vs))) := fun a u ha => by
    obtain ⟨h1, h2⟩ := R_of ha
    have n := ne_of_none h2 hp
    rw [R_none (by rw [mset_ne n]; exact h1), upd_ne n]
    exact h2
  refine ⟨fun a u ha => ?_, e⟩
  by_cases z : a = p
  · subst z
    rw [mset_same] at ha
    cases ha
    exact ⟨vs, upd_same, DenL.mono e _ _ d⟩
  · rw [mset_ne z] at ha
    exact MOk.mono e (upd_ne z) (h a u ha)
/-- a mutable list is changed -/
theorem Po.setL {K : PySem.W.Frag} {m : Mu} {H : Hp} {p : Addr} {o : MO} {ds : List D} {vs : List V} (h : Rep K H m) (hp : m p = some o) (d : DenL K (R m H) ds vs) : Po K m H (mset m p (.lst ds)) (upd H p (.lst vs)) := by
  have e : Ex (R m H) (R (mset m p (.lst ds)) (upd H p (.lst vs))) := fun a u ha => by
    obtain ⟨h1, h2⟩ := R_of ha
    have n : a ≠ p := fun z => by
      rw [z, hp] at h1
      cases h1
    rw [R_none (by rw [mset_ne n]; exact h1), upd_ne n]
    exact h2
  refine ⟨fun a u ha => ?_, e⟩
  by_cases z : a = p
  · subst z
    rw [mset_same] at ha
    cases ha
    exact ⟨vs, upd_same, DenL.mono e _ _ d⟩
  · rw [mset_ne z] at ha
    exact MOk.mono e (upd_ne z) (h a u ha)
/-- a new dict -/
theorem Po.newK {K : PySem.W.Frag} {m : Mu} {H : Hp} {p : Addr} {mk : KL → HO} {kvs : List (NestedKey × D × D)} {L : KL} (h : Rep K H m) (hp : H p = none) (d : DenK K (R m H) kvs L) : Po K m H (mset m p (.dic mk kvs)) (upd H p (mk L)) := by
  have mp := h.fresh hp
  have e : Ex (R m H) (R (mset m p (.dic mk kvs)) (upd H p (mk L))) := fun a u ha => by
    obtain ⟨h1, h2⟩ := R_of ha
    have n := ne_of_none h2 hp
    rw [R_none (by rw [mset_ne n]; exact h1), upd_ne n]
    exact h2
  refine ⟨fun a u ha => ?_, e⟩
  by_cases z : a = p
  · subst z
    rw [mset_same] at ha
    cases ha
    exact ⟨L, upd_same, DenK.mono e _ _ d⟩
  · rw [mset_ne z] at ha
    exact MOk.mono e (upd_ne z) (h a u ha)
/-- a dict is changed -/
theorem Po.setK {K : PySem.W.Frag} {m : Mu} {H : Hp} {p : Addr} {o : MO} {mk : KL → HO} {kvs : List (NestedKey × D × D)} {L : KL} (h : Rep K H m) (hp : m p = some o) (d : DenK K (R m H) kvs L) : Po K m H (mset m p (.dic mk kvs)) (upd H p (mk L)) := by
  have e : Ex (R m H) (R (mset m p (.dic mk kvs)) (upd H p (mk L))) := fun a u ha => by
    obtain ⟨h1, h2⟩ := R_of ha
    have n : a ≠ p := fun z => by
      rw [z, hp] at h1
      cases h1
    rw [R_none (by rw [mset_ne n]; exact h1), upd_ne n]
    exact h2
  refine ⟨fun a u ha => ?_, e⟩
  by_cases z : a = p
  · subst z
    rw [mset_same] at ha
    cases ha
    exact ⟨L, upd_same, DenK.mono e _ _ d⟩
  · rw [mset_ne z] at ha
    exact MOk.mono e (upd_ne z) (h a u ha)
theorem Po.setI {K : PySem.W.Frag} {m : Mu} {H : Hp} {p C dx : Addr} {o : MO} {fs : List (Str × D)} {gs : List (Str × V)} (h : Rep K H m) (hp : m p = some o) (d : DenF K (R m H) fs gs) : Po K m H (mset m p (.ins C dx fs)) (upd H p (.ins C dx gs)) := by
  have e : Ex (R m H) (R (mset m p (.ins C dx fs)) (upd H p (.ins C dx gs))) := fun a u ha => by
    obtain ⟨h1, h2⟩ := R_of ha
    have n : a ≠ p := fun z => by
      rw [z, hp] at h1
      cases h1
    rw [R_none (by rw [mset_ne n]; exact h1), upd_ne n]
    exact h2
  refine ⟨fun a u ha => ?_, e⟩
  by_cases z : a = p
  · subst z
    rw [mset_same] at ha
    cases ha
    exact ⟨gs, upd_same, DenF.mono e _ _ d⟩
  · rw [mset_ne z] at ha
    exact MOk.mono e (upd_ne z) (h a u ha)
/-- what is mutable no more -/
theorem Po.del {K : PySem.W.Frag} {m : Mu} {H : Hp} {p : Addr} (h : Rep K H m) : Po K m H (mdel m p) H := by
  have e : Ex (R m H) (R (mdel m p) H) := fun a u ha => by
    obtain ⟨h1, h2⟩ := R_of ha
    have z : mdel m p a = none := by
      unfold mdel
      split
      · rfl
      · exact h1
    rw [R_none z]
    exact h2
  refine ⟨fun a u ha => ?_, e⟩
  have z : a ≠ p := fun z => by
    rw [z, mdel_same] at ha
    cases ha
  rw [mdel_ne z] at ha
  exact MOk.mono e rfl (h a u ha)
/-- .. it is data then -/
theorem den_frozen {K : PySem.W.Frag} {m : Mu} {H : Hp} {p : Addr} {ds : List D} (h : Rep K H m) (hp : m p = some (.lst ds)) : Den K (R (mdel m p) H) (.lst ds) (.ref p) := by
  obtain ⟨vs, h1, h2⟩ := h p _ hp
  exact ⟨p, vs, rfl, by rw [R_none mdel_same]; exact h1, DenL.mono (Po.del h).2 _ _ h2⟩
/-! ### the slots -/
abbrev Sl := List (Option D)
def nth : Sl → Nat → Option D
  | [], _ => none
  | x :: _, 0 => x
  | _ :: r, n + 1 => nth r n
def put : Sl → Nat → Option D → Sl
  | [], _, _ => []
  | _ :: r, 0, d => d :: r
  | x :: r, n + 1, d => x :: put r n d
def Env (K : PySem.W.Frag) (S : Hp) : Sl → St → Prop
  | [], st => st = []
  | x :: r, st => ∃ v u, st = v :: u ∧ (∀ d, x = some d → ∃ w, v = some w ∧ Den K S d w) ∧ Env K S r u
theorem Env.mono {K : PySem.W.Frag} {S S' : Hp} (e : Ex S S') : ∀ {g : Sl} {st : St}, Env K S g st → Env K S' g st
  | [], _, h => h
  | x :: r, _, ⟨v, u, h1, h2, h3⟩ => ⟨v, u, h1, fun d q => let ⟨w, a, b⟩ := h2 d q; ⟨w, a, Den.mono e d w b⟩, Env.mono e h3⟩
theorem Env.nth {K : PySem.W.Frag} {S : Hp} : ∀ {g : Sl} {st : St} {i : Nat} {d : D}, Env K S g st → nth g i = some d → ∃ v, st[i]? = some (some v) ∧ Den K S d v
  | x :: r, _, 0, d, ⟨v, u, h1, h2, h3⟩, q => by
    subst h1
    obtain ⟨w, a, b⟩ := h2 d q
    exact ⟨w, by rw [List.getElem?_cons_zero, a], b⟩
  | x :: r, _, i + 1, d, ⟨v, u, h1, h2, h3⟩, q => by
    subst h1
    obtain ⟨w, a, b⟩ := Env.nth h3 q
    exact ⟨w, by rw [List.getElem?_cons_succ]; exact a, b⟩
theorem Env.put {K : PySem.W.Frag} {S : Hp} : ∀ {g : Sl} {st : St} {i : Nat} {d : D} {v : V}, Env K S g st → Den K S d v → Env K S (AL.put g i (some d)) (st.set i (some v))
  | [], _, i, _, _, h, _ => by
    rw [show _ = [] from h]
    rfl
  | x :: r, _, 0, d, w, ⟨v, u, h1, h2, h3⟩, q => by
    subst h1
    exact ⟨some w, u, rfl, fun e z => ⟨w, rfl, by cases z; exact q⟩, h3⟩
  | x :: r, _, i + 1, d, w, ⟨v, u, h1, h2, h3⟩, q => by
    subst h1
    exact ⟨v, _, rfl, h2, Env.put h3 q⟩
theorem Env.gone {K : PySem.W.Frag} {S : Hp} : ∀ {g : Sl} {st : St} {i : Nat} {v : Option V}, Env K S g st → Env K S (AL.put g i Option.none) (st.set i v)
  | [], _, i, _, h => by
    rw [show _ = [] from h]
    rfl
  | x :: r, _, 0, w, ⟨v, u, h1, h2, h3⟩ => by
    subst h1
    exact ⟨w, u, rfl, fun e z => (by cases z), h3⟩
  | x :: r, _, i + 1, w, ⟨v, u, h1, h2, h3⟩ => by
    subst h1
    exact ⟨v, _, rfl, h2, Env.gone h3⟩
theorem Env.len {K : PySem.W.Frag} {S : Hp} : ∀ {g : Sl} {st : St}, Env K S g st → st.length = g.length
  | [], _, h => by
    rw [show _ = [] from h]
    rfl
  | x :: r, _, ⟨v, u, h1, _, h3⟩ => by
    rw [h1, List.length_cons, List.length_cons, Env.len h3]
theorem Env.non {K : PySem.W.Frag} {S : Hp} : ∀ (n : Nat), Env K S (List.replicate n Option.none) (List.replicate n Option.none)
  | 0 => rfl
  | n + 1 => ⟨Option.none, _, List.replicate_succ, fun d q => (by cases q), Env.non n⟩
theorem Env.start {K : PySem.W.Frag} {S : Hp} : ∀ {ds : List D} {vs : List V} (n : Nat), DenL K S ds vs → Env K S (ds.map some ++ List.replicate n Option.none) (vs.map some ++ List.replicate n Option.none)
  | [], _, n, h => by
    rw [show _ = [] from h]
    exact Env.non n
  | d :: ds, _, n, ⟨v, r, h1, h2, h3⟩ => by
    subst h1
    exact ⟨some v, _, rfl, fun e q => ⟨v, rfl, by cases q; exact h2⟩, Env.start n h3⟩
end AL
set_option maxHeartbeats 1000000
namespace AL
open PySem L2 Evl
abbrev PD := D → Mu → Prop
abbrev Ab := Sl → Mu → PD → Prop
abbrev AbT := Sl → Mu → (Bool → Mu → Prop) → Prop
abbrev AbA := Sl → Mu → (List D → Mu → Prop) → Prop
def WX (K : PySem.W.Frag) (S0 : Hp) (te : TE) (g : Sl) (m : Mu) (P : PD) : Prop :=
  ∀ st H, Rep K H m → Ex S0 (R m H) → Env K (R m H) g st → ∀ Q : VK, (∀ v H' d m', P d m' → Po K m H m' H' → Den K (R m' H') d v → Q v H') → te st H Q
def WT (K : PySem.W.Frag) (S0 : Hp) (te : TT) (g : Sl) (m : Mu) (P : Bool → Mu → Prop) : Prop :=
  ∀ st H, Rep K H m → Ex S0 (R m H) → Env K (R m H) g st → ∀ Q : Bool → Hp → Prop, (∀ b H' m', P b m' → Po K m H m' H' → Q b H') → te st H Q
def WA (K : PySem.W.Frag) (S0 : Hp) (te : TA) (g : Sl) (m : Mu) (P : List D → Mu → Prop) : Prop :=
  ∀ st H, Rep K H m → Ex S0 (R m H) → Env K (R m H) g st → ∀ Q : List V → Hp → Prop, (∀ vs H' ds m', P ds m' → Po K m H m' H' → DenL K (R m' H') ds vs → Q vs H') → te st H Q
structure AE (X : Cx) (S0 : Hp) (e : Expr) (a : Ab) : Prop where
  ex : ∃ t, PE X e t ∧ ∀ g m P, a g m P → WX X.K S0 t g m P
structure AT (X : Cx) (S0 : Hp) (e : Expr) (a : AbT) : Prop where
  ex : ∃ t, PT X e t ∧ ∀ g m P, a g m P → WT X.K S0 t g m P
structure AW (X : Cx) (S0 : Hp) (e : Expr) (a : AbT) : Prop where
  ex : ∃ t, PW X e t ∧ ∀ g m P, a g m P → WT X.K S0 t g m P
structure AA (X : Cx) (S0 : Hp) (es : List Expr) (a : AbA) : Prop where
  ex : ∃ t, PA X es t ∧ ∀ g m P, a g m P → WA X.K S0 t g m P
section
variable {X : Cx} {S0 : Hp} {a b c e : Expr} {es : List Expr} {fa fb fc : Ab} {ft fu : AbT} {fs : AbA} {pos : Pos}
/-! ### names, constants -/
def aVar (i : Nat) : Ab := fun g m P => match nth g i with
  | some d => P d m
  | none => False
theorem ae_var {x : Str} (i : Nat) (hN : X.N[i]? = some x := by rfl) (hv : Vis X.env.scope x := by first | exact Or.inl rfl | exact Or.inr (Or.inl rfl) | exact Or.inr (Or.inr rfl)) (hd : (x == ("__debug__" : Str)) = false := by decide)
    (hcd : (x == ("__classdict__" : Str)) = false := by decide) : AE X S0 (.Name x pos) (aVar i) :=
  ⟨_, pe_var hN hv hd hcd, fun g m P h st H r e0 en Q q => by
    unfold aVar at h
    split at h
    · rename_i d hd
      obtain ⟨v, h1, h2⟩ := en.nth hd
      exact ⟨v, h1, q v H d m h (Po.refl r) h2⟩
    · exact h.elim⟩
def aC (d : D) : Ab := fun _ m P => P d m
theorem ae_const {v : V} (d : D) (h : PE X e (tC v)) (hd : ∀ S, Den X.K S d v) : AE X S0 e (aC d) :=
  ⟨_, h, fun g m P h st H r e0 en Q q => q v H d m h (Po.refl r) (hd _)⟩
/-! ### operators -/
def OpA (K : PySem.W.Frag) (r : R2) (f : D → D → Mu → PD → Prop) : Prop :=
  ∀ x y m P, f x y m P → ∀ v w H, Rep K H m → Den K (R m H) x v → Den K (R m H) y w → ∀ Q : VK, (∀ z H' d m', P d m' → Po K m H m' H' → Den K (R m' H') d z → Q z H') → r v w H Q
def aOp (f : D → D → Mu → PD → Prop) (fa fb : Ab) : Ab := fun g m P => fa g m fun x m1 => fb g m1 fun y m2 => f x y m2 P
theorem aop_sound {K : PySem.W.Frag} {S0 : Hp} {r : R2} {f : D → D → Mu → PD → Prop} {ta tb : TE} {fa fb : Ab} (hr : OpA K r f) (ha : ∀ g m P, fa g m P → WX K S0 ta g m P) (hb : ∀ g m P, fb g m P → WX K S0 tb g m P) :
    ∀ g m P, aOp f fa fb g m P → WX K S0 (tOp r ta tb) g m P := fun g m P h st H rp e0 en Q q =>
  ha g m _ h st H rp e0 en _ fun v H1 x m1 h1 p1 d1 =>
    hb g m1 _ h1 st H1 p1.1 (e0.trans p1.2) (en.mono p1.2) _ fun w H2 y m2 h2 p2 d2 =>
      hr x y m2 P h2 v w H2 p2.1 (Den.mono p2.2 _ _ d1) d2 Q fun z H3 d m3 h3 p3 d3 => q z H3 d m3 h3 (p1.trans (p2.trans p3)) d3
theorem ae_op {op : Operator} {r : R2} {f : D → D → Mu → PD → Prop} (ho : OpR X (binaryOp op) r) (hr : OpA X.K r f) (ha : AE X S0 a fa) (hb : AE X S0 b fb) : AE X S0 (.BinOp a op b pos) (aOp f fa fb) := by
  obtain ⟨ta, pa, sa⟩ := ha.ex
  obtain ⟨tb, pb, sb⟩ := hb.ex
  exact ⟨_, pe_op ho pa pb, aop_sound hr sa sb⟩
theorem ae_cmp {op : CmpOp} {r : R2} {f : D → D → Mu → PD → Prop} (ho : OpR X (compareOp op) r) (hr : OpA X.K r f) (hm : behindInMarks op b = false) (ha : AE X S0 a fa) (hb : AE X S0 b fb) : AE X S0 (.Compare a [op] [b] pos) (aOp f fa fb) := by
  obtain ⟨ta, pa, sa⟩ := ha.ex
  obtain ⟨tb, pb, sb⟩ := hb.ex
  exact ⟨_, pe_cmpR ho pa pb hm, aop_sound hr sa sb⟩
def asT (P : Bool → Mu → Prop) : PD := fun d m => match d with
  | .bl b => P b m
  | _ => False
/-- a value that is a bool, as a test -/
def aTest (f : Ab) : AbT := fun g m P => f g m (asT P)
theorem den_bl {K : PySem.W.Frag} {S : Hp} {d : D} {v : V} {P : Bool → Mu → Prop} {m : Mu} (h : asT P d m) (g : Den K S d v) : ∃ b, v = .bl b ∧ P b m := by
  cases d with
  | bl b => exact ⟨b, g, h⟩
  | _ => exact (show False from h).elim
theorem at_cmp {op : CmpOp} {r : R2} {f : D → D → Mu → PD → Prop} (ho : OpR X (compareOp op) r) (hr : OpA X.K r f) (hm : behindInMarks op b = false) (ha : AE X S0 a fa) (hb : AE X S0 b fb) : AT X S0 (.Compare a [op] [b] pos) (aTest (aOp f fa fb)) := by
  obtain ⟨ta, pa, sa⟩ := ha.ex
  obtain ⟨tb, pb, sb⟩ := hb.ex
  refine ⟨_, pt_cmpR ho pa pb hm, fun g m P h st H rp e0 en Q q => ?_⟩
  exact aop_sound hr sa sb g m _ h st H rp e0 en _ fun v H' d m' h1 p1 d1 => by
    obtain ⟨k, rfl, hk⟩ := den_bl h1 d1
    exact ⟨k, rfl, q k H' m' hk p1⟩
theorem at_val (ha : AE X S0 a fa) (hs : ∀ w, isTrue a X.env w = (do let v ← w; standAt a.pos; holding [v] (truthy v)) := by intro _; rfl) : AT X S0 a (aTest fa) := by
  obtain ⟨ta, pa, sa⟩ := ha.ex
  refine ⟨_, pt_truth pa hs, fun g m P h st H rp e0 en Q q => ?_⟩
  exact sa g m _ h st H rp e0 en _ fun v H' d m' h1 p1 d1 => by
    obtain ⟨k, rfl, hk⟩ := den_bl h1 d1
    exact ⟨k, rfl, q k H' m' hk p1⟩
/-- what data reads as a row -/
def seqOf (m : Mu) : D → Option (List D)
  | .tup ds => some ds
  | .lst ds => some ds
  | .scr ns => some (ns.map D.int)
  | .box a => match m a with
    | some (.lst ds) => some ds
    | _ => none
  | _ => none
theorem seq_den {K : PySem.W.Frag} {m : Mu} {H : Hp} {d : D} {v : V} {ds : List D} (r : Rep K H m) (h : Den K (R m H) d v) (e : seqOf m d = some ds) :
    ∃ p vs, v = .ref p ∧ (SqL K H p vs ∨ SqT K H p vs) ∧ DenL K (R m H) ds vs := by
  have up : Ex (R m H) H := fun a o q => (R_of q).2
  cases d with
  | tup es =>
    cases e
    obtain ⟨a, vs, h1, h2, h3⟩ := h
    exact ⟨a, vs, h1, .inr (ex_t up h2), h3⟩
  | lst es =>
    cases e
    obtain ⟨a, vs, h1, h2, h3⟩ := h
    exact ⟨a, vs, h1, .inl (sq_of (R_of h2).2), h3⟩
  | box a =>
    have e' : (match m a with
      | some (.lst ds) => some ds
      | _ => none) = some ds := e
    cases hm : m a with
    | none =>
      rw [hm] at e'
      cases e'
    | some o =>
      rw [hm] at e'
      cases o with
      | lst es =>
        cases e'
        obtain ⟨vs, h1, h2⟩ := r a _ hm
        exact ⟨a, vs, h, .inl (sq_of h1), h2⟩
      | ins C dx fs => cases e'
      | dic mk kvs => cases e'
  | scr ns =>
    cases e
    obtain ⟨a, h1, h2⟩ := h
    exact ⟨a, _, h1, .inl (ex_l up h2), DenL.ints ns⟩
  | _ => cases e
/-- truth -/
def truD (m : Mu) : D → Option Bool
  | .non => some false
  | .bl b => some b
  | .int i => some (i != 0)
  | d => (seqOf m d).map fun ds => !ds.isEmpty
def aTru (f : Ab) : AbT := fun g m P => f g m fun d m1 => match truD m1 d with
  | some b => P b m1
  | none => False
theorem tru_den {K : PySem.W.Frag} {m : Mu} {H : Hp} {d : D} {v : V} {b : Bool} (r : Rep K H m) (h : Den K (R m H) d v) (e : truD m d = some b) : TruV K v H b := by
  have go : ∀ ds, seqOf m d = some ds → TruV K v H (!ds.isEmpty) := fun ds q => by
    obtain ⟨p, vs, rfl, hs, hd⟩ := seq_den r h q
    have hl := hd.len
    have hz : vs.isEmpty = ds.isEmpty := by
      cases vs <;> cases ds <;> first | rfl | cases hl
    rcases hs with z | z
    · exact .inl ⟨vs, z, by rw [hz]⟩
    · exact .inr (.inl ⟨vs, z, by rw [hz]⟩)
  cases d with
  | non =>
    cases h
    cases e
    rfl
  | bl k =>
    cases h
    cases e
    rfl
  | int i =>
    cases h
    cases e
    rfl
  | str x => cases e
  | ty n => cases e
  | tup ds =>
    cases e
    exact go ds rfl
  | lst ds =>
    cases e
    exact go ds rfl
  | scr ns =>
    cases e
    exact go _ rfl
  | box a =>
    have e : (seqOf m (.box a)).map (fun ds => !ds.isEmpty) = some b := e
    cases q : seqOf m (.box a) with
    | none =>
      rw [q] at e
      cases e
    | some ds =>
      rw [q] at e
      cases e
      exact go ds q
theorem at_tru (ha : AE X S0 a fa) (hs : ∀ w, isTrue a X.env w = (do let v ← w; standAt a.pos; holding [v] (truthy v)) := by intro _; rfl) : AT X S0 a (aTru fa) := by
  obtain ⟨ta, pa, sa⟩ := ha.ex
  refine ⟨_, pt_truth pa hs, fun g m P h st H rp e0 en Q q => ?_⟩
  exact sa g m _ h st H rp e0 en _ fun v H' d m' h1 p1 d1 => by
    cases z : truD m' d with
    | none =>
      rw [z] at h1
      exact h1.elim
    | some k =>
      rw [z] at h1
      exact ⟨k, tru_den p1.1 d1 z, q k H' m' h1 p1⟩
/-! ### and, or, not -/
def aAnd (t u : AbT) : AbT := fun g m P => t g m fun b m1 => if b = true then u g m1 P else P false m1
def aOr (t u : AbT) : AbT := fun g m P => t g m fun b m1 => if b = true then P true m1 else u g m1 P
def aNot (t : AbT) : AbT := fun g m P => t g m fun b m1 => P (!b) m1
theorem and_sound {K : PySem.W.Frag} {S0 : Hp} {t u : TT} (h1 : ∀ g m P, ft g m P → WT K S0 t g m P) (h2 : ∀ g m P, fu g m P → WT K S0 u g m P) : ∀ g m P, aAnd ft fu g m P → WT K S0 (tAnd t u) g m P :=
  fun g m P h st H rp e0 en Q q => h1 g m _ h st H rp e0 en _ fun b H1 m1 hb p1 => by
    cases b with
    | true =>
      rw [if_pos rfl] at hb ⊢
      exact h2 g m1 P hb st H1 p1.1 (e0.trans p1.2) (en.mono p1.2) Q fun k H2 m2 hk p2 => q k H2 m2 hk (p1.trans p2)
    | false =>
      rw [if_neg (by decide)] at hb ⊢
      exact q false H1 m1 hb p1
theorem or_sound {K : PySem.W.Frag} {S0 : Hp} {t u : TT} (h1 : ∀ g m P, ft g m P → WT K S0 t g m P) (h2 : ∀ g m P, fu g m P → WT K S0 u g m P) : ∀ g m P, aOr ft fu g m P → WT K S0 (tOr t u) g m P :=
  fun g m P h st H rp e0 en Q q => h1 g m _ h st H rp e0 en _ fun b H1 m1 hb p1 => by
    cases b with
    | true =>
      rw [if_pos rfl] at hb ⊢
      exact q true H1 m1 hb p1
    | false =>
      rw [if_neg (by decide)] at hb ⊢
      exact h2 g m1 P hb st H1 p1.1 (e0.trans p1.2) (en.mono p1.2) Q fun k H2 m2 hk p2 => q k H2 m2 hk (p1.trans p2)
theorem at_not {p : Pos} (ha : AT X S0 a ft) : AT X S0 (.UnaryOp .Not a p) (aNot ft) := by
  obtain ⟨ta, pa, sa⟩ := ha.ex
  exact ⟨_, pt_not pa, fun g m P h st H rp e0 en Q q => sa g m _ h st H rp e0 en _ fun b H1 m1 hb p1 => q (!b) H1 m1 hb p1⟩
def aAndV (fa fb : Ab) : Ab := fun g m P => fa g m (asT fun b m1 => if b = true then fb g m1 P else P (.bl false) m1)
def aOrV (fa fb : Ab) : Ab := fun g m P => fa g m (asT fun b m1 => if b = true then P (.bl true) m1 else fb g m1 P)
def aNotV (fa : Ab) : Ab := fun g m P => fa g m (asT fun b m1 => P (.bl (!b)) m1)
def aIfE (ft : AbT) (fa fb : Ab) : Ab := fun g m P => ft g m fun b m1 => if b = true then fa g m1 P else fb g m1 P
theorem ae_one {op : BoolOp} {p : Pos} (h : AE X S0 a fa) : AE X S0 (.BoolOp op [a] p) fa := by
  obtain ⟨ta, pa, sa⟩ := h.ex
  exact ⟨ta, pe_one pa, sa⟩
theorem ae_and {rest : List Expr} {p : Pos} (ha : AE X S0 a fa) (hb : AE X S0 (.BoolOp .And (b :: rest) p) fb) : AE X S0 (.BoolOp .And (a :: b :: rest) p) (aAndV fa fb) := by
  obtain ⟨ta, pa, sa⟩ := ha.ex
  obtain ⟨tb, pb, sb⟩ := hb.ex
  refine ⟨_, pe_and pa pb, fun g m P h st H rp e0 en Q q => sa g m _ h st H rp e0 en _ fun v H1 d m1 h1 p1 d1 => ?_⟩
  obtain ⟨k, rfl, hk⟩ := den_bl h1 d1
  refine ⟨k, rfl, ?_⟩
  cases k with
  | true =>
    rw [if_pos rfl] at hk ⊢
    exact sb g m1 P hk st H1 p1.1 (e0.trans p1.2) (en.mono p1.2) Q fun w H2 d2 m2 h2 p2 e2 => q w H2 d2 m2 h2 (p1.trans p2) e2
  | false =>
    rw [if_neg (by decide)] at hk ⊢
    exact q _ H1 _ m1 hk p1 rfl
theorem ae_or {rest : List Expr} {p : Pos} (ha : AE X S0 a fa) (hb : AE X S0 (.BoolOp .Or (b :: rest) p) fb) : AE X S0 (.BoolOp .Or (a :: b :: rest) p) (aOrV fa fb) := by
  obtain ⟨ta, pa, sa⟩ := ha.ex
  obtain ⟨tb, pb, sb⟩ := hb.ex
  refine ⟨_, pe_or pa pb, fun g m P h st H rp e0 en Q q => sa g m _ h st H rp e0 en _ fun v H1 d m1 h1 p1 d1 => ?_⟩
  obtain ⟨k, rfl, hk⟩ := den_bl h1 d1
  refine ⟨k, rfl, ?_⟩
  cases k with
  | true =>
    rw [if_pos rfl] at hk ⊢
    exact q _ H1 _ m1 hk p1 rfl
  | false =>
    rw [if_neg (by decide)] at hk ⊢
    exact sb g m1 P hk st H1 p1.1 (e0.trans p1.2) (en.mono p1.2) Q fun w H2 d2 m2 h2 p2 e2 => q w H2 d2 m2 h2 (p1.trans p2) e2
theorem ae_not {p : Pos} (ha : AE X S0 a fa) : AE X S0 (.UnaryOp .Not a p) (aNotV fa) := by
  obtain ⟨ta, pa, sa⟩ := ha.ex
  refine ⟨_, pe_not pa, fun g m P h st H rp e0 en Q q => sa g m _ h st H rp e0 en _ fun v H1 d m1 h1 p1 d1 => ?_⟩
  obtain ⟨k, rfl, hk⟩ := den_bl h1 d1
  exact ⟨k, rfl, q _ H1 _ m1 hk p1 rfl⟩
theorem ae_if {p : Pos} (ht : AT X S0 c ft) (ha : AE X S0 a fa) (hb : AE X S0 b fb) : AE X S0 (.IfExp c a b p) (aIfE ft fa fb) := by
  obtain ⟨tc, pc, sc⟩ := ht.ex
  obtain ⟨ta, pa, sa⟩ := ha.ex
  obtain ⟨tb, pb, sb⟩ := hb.ex
  refine ⟨_, pe_ifExp pc pa pb, fun g m P h st H rp e0 en Q q => sc g m _ h st H rp e0 en _ fun k H1 m1 hk p1 => ?_⟩
  cases k with
  | true =>
    rw [if_pos rfl] at hk ⊢
    exact sa g m1 P hk st H1 p1.1 (e0.trans p1.2) (en.mono p1.2) Q fun w H2 d2 m2 h2 p2 e2 => q w H2 d2 m2 h2 (p1.trans p2) e2
  | false =>
    rw [if_neg (by decide)] at hk ⊢
    exact sb g m1 P hk st H1 p1.1 (e0.trans p1.2) (en.mono p1.2) Q fun w H2 d2 m2 h2 p2 e2 => q w H2 d2 m2 h2 (p1.trans p2) e2
theorem at_and1 {p : Pos} (h : AT X S0 a ft) : AW X S0 (.BoolOp .And [a] p) ft := by
  obtain ⟨ta, pa, sa⟩ := h.ex
  exact ⟨ta, pw_and1 pa, sa⟩
theorem at_or1 {p : Pos} (h : AT X S0 a ft) : AW X S0 (.BoolOp .Or [a] p) ft := by
  obtain ⟨ta, pa, sa⟩ := h.ex
  exact ⟨ta, pw_or1 pa, sa⟩
theorem aw_and {rest : List Expr} {p : Pos} (ha : AT X S0 a ft) (hb : AW X S0 (.BoolOp .And (b :: rest) p) fu) : AW X S0 (.BoolOp .And (a :: b :: rest) p) (aAnd ft fu) := by
  obtain ⟨ta, pa, sa⟩ := ha.ex
  obtain ⟨tb, pb, sb⟩ := hb.ex
  exact ⟨_, pw_and pa pb, and_sound sa sb⟩
theorem aw_or {rest : List Expr} {p : Pos} (ha : AT X S0 a ft) (hb : AW X S0 (.BoolOp .Or (b :: rest) p) fu) : AW X S0 (.BoolOp .Or (a :: b :: rest) p) (aOr ft fu) := by
  obtain ⟨ta, pa, sa⟩ := ha.ex
  obtain ⟨tb, pb, sb⟩ := hb.ex
  exact ⟨_, pw_or pa pb, or_sound sa sb⟩
theorem aw_at (h : AW X S0 a ft) : AT X S0 a ft := by
  obtain ⟨t, p, s⟩ := h.ex
  exact ⟨t, p.pt, s⟩
/-! ### rows of expressions, tuples, lists -/
def aNil : AbA := fun _ m P => P [] m
def aCons (fa : Ab) (fr : AbA) : AbA := fun g m P => fa g m fun d m1 => fr g m1 fun ds m2 => P (d :: ds) m2
theorem aa_nil : AA X S0 [] aNil := ⟨_, pa_nil, fun g m P h st H rp e0 en Q q => q [] H [] m h (Po.refl rp) rfl⟩
def aTup (fs : AbA) : Ab := fun g m P => fs g m fun ds m1 => ds.length ≤ 100000 ∧ P (.tup ds) m1
/-- a list that will not change | one that may -/
def aLst (fs : AbA) : Ab := fun g m P => fs g m fun ds m1 => ds.length ≤ 100000 ∧ P (.lst ds) m1
def aLstB (fs : AbA) : Ab := fun g m P => fs g m fun ds m1 => ds.length ≤ 100000 ∧ ∀ p, m1 p = none → P (.box p) (mset m1 p (.lst ds))
end
end AL
set_option maxHeartbeats 1000000
namespace AL
open PySem L2 Evl
section
variable {X : Cx} {S0 : Hp} {a b c e : Expr} {es : List Expr} {fa fb fc : Ab} {ft fu : AbT} {fs fr : AbA} {pos : Pos} {K : PySem.W.Frag}
theorem aa_cons (ha : AE X S0 e fa) (hr : AA X S0 es fr) (hs : starEach (e :: es) X.env = (false, eval e X.env) :: starEach es X.env := by rfl) : AA X S0 (e :: es) (aCons fa fr) := by
  obtain ⟨ta, pa, sa⟩ := ha.ex
  obtain ⟨tb, pb, sb⟩ := hr.ex
  exact ⟨_, pa_cons pa pb hs, fun g m P h st H rp e0 en Q q => sa g m _ h st H rp e0 en _ fun v H1 d m1 h1 p1 d1 =>
    sb g m1 _ h1 st H1 p1.1 (e0.trans p1.2) (en.mono p1.2) _ fun vs H2 ds m2 h2 p2 d2 =>
      q (v :: vs) H2 (d :: ds) m2 h2 (p1.trans p2) ⟨v, vs, rfl, Den.mono p2.2 _ _ d1, d2⟩⟩
theorem ae_tup {x1} (h : AA X S0 es fs) : AE X S0 (.Tuple es x1 pos) (aTup fs) := by
  obtain ⟨t, p, s⟩ := h.ex
  refine ⟨_, pe_tup p, fun g m P h st H rp e0 en Q q => s g m _ h st H rp e0 en _ fun vs H1 ds m1 h1 p1 d1 => ⟨sz_of (by rw [d1.len]; exact h1.1), fun l hl => ?_⟩⟩
  obtain ⟨p2, hr⟩ := Po.new (o := .tup vs) p1.1 hl
  exact q _ _ (.tup ds) m1 h1.2 (p1.trans p2) ⟨l, vs, rfl, st_of hr, DenL.mono p2.2 _ _ d1⟩
theorem ae_lst (h : AA X S0 es fs) : AE X S0 (.List es pos) (aLst fs) := by
  obtain ⟨t, p, s⟩ := h.ex
  refine ⟨_, pe_lst p, fun g m P h st H rp e0 en Q q => s g m _ h st H rp e0 en _ fun vs H1 ds m1 h1 p1 d1 => ⟨sz_of (by rw [d1.len]; exact h1.1), fun l hl => ?_⟩⟩
  obtain ⟨p2, hr⟩ := Po.new (o := .lst vs) p1.1 hl
  exact q _ _ (.lst ds) m1 h1.2 (p1.trans p2) ⟨l, vs, rfl, hr, DenL.mono p2.2 _ _ d1⟩
theorem ae_lstB (h : AA X S0 es fs) : AE X S0 (.List es pos) (aLstB fs) := by
  obtain ⟨t, p, s⟩ := h.ex
  refine ⟨_, pe_lst p, fun g m P h st H rp e0 en Q q => s g m _ h st H rp e0 en _ fun vs H1 ds m1 h1 p1 d1 => ⟨sz_of (by rw [d1.len]; exact h1.1), fun l hl => ?_⟩⟩
  have p2 := Po.newL (ds := ds) (vs := vs) p1.1 hl d1
  exact q _ _ (.box l) _ (h1.2 l (p1.1.fresh hl)) (p1.trans p2) rfl
/-! ### two-place operations -/
theorem den_int {S : Hp} {d : D} {v : V} (h : Den K S d v) {P : Int → Prop} (q : match d with | .int i => P i | _ => False) : ∃ i, d = .int i ∧ v = .int i ∧ P i := by
  cases d with
  | int i => exact ⟨i, rfl, h, q⟩
  | _ => exact (show False from q).elim
def fI2 (f : Int → Int → D) (C : Int → Int → Prop) : D → D → Mu → PD → Prop := fun x y m P => match x, y with
  | .int i, .int j => C i j ∧ P (f i j) m
  | _, _ => False
theorem fI2_inv {f : Int → Int → D} {C : Int → Int → Prop} {x y : D} {m : Mu} {P : PD} (h : fI2 f C x y m P) : ∃ i j, x = .int i ∧ y = .int j ∧ C i j ∧ P (f i j) m := by
  cases x <;> cases y <;> first | exact ⟨_, _, rfl, rfl, h.1, h.2⟩ | exact (show False from h).elim
theorem opA_I {C : Int → Int → Prop} {g : Int → Int → V} {f : Int → Int → D} (hd : ∀ S i j, Den K S (f i j) (g i j)) : OpA K (rI C g) (fI2 f C) := fun x y m P h v w H rp d1 d2 Q q => by
  obtain ⟨i, j, rfl, rfl, hc, hp⟩ := fI2_inv h
  exact ⟨i, j, d1, d2, hc, q _ H _ m hp (Po.refl rp) (hd _ _ _)⟩
theorem opA_I0 {g : Int → Int → V} {f : Int → Int → D} (hd : ∀ S i j, Den K S (f i j) (g i j)) : OpA K (rI0 g) (fI2 f fun _ _ => True) := fun x y m P h v w H rp d1 d2 Q q => by
  obtain ⟨i, j, rfl, rfl, hc, hp⟩ := fI2_inv h
  exact ⟨i, j, d1, d2, q _ H _ m hp (Po.refl rp) (hd _ _ _)⟩
/-- two operations by the kind of what they get -/
theorem OpR.or {f : Value → Value → Sem Value} {r r' : R2} (h : OpR X f r) (h' : OpR X f r') : OpR X f (fun x y H Q => r x y H Q ∨ r' x y H Q) :=
  fun pins s σ H x y v u Q I rx ry q => q.elim (h pins s σ H x y v u Q I rx ry) (h' pins s σ H x y v u Q I rx ry)
theorem OpA.or {r r' : R2} {f f' : D → D → Mu → PD → Prop} (h : OpA K r f) (h' : OpA K r' f') : OpA K (fun x y H Q => r x y H Q ∨ r' x y H Q) (fun x y m P => f x y m P ∨ f' x y m P) :=
  fun x y m P hh v w H rp d1 d2 Q q => hh.elim (fun z => .inl (h x y m P z v w H rp d1 d2 Q q)) (fun z => .inr (h' x y m P z v w H rp d1 d2 Q q))
theorem OpA.imp {r : R2} {f f' : D → D → Mu → PD → Prop} (h : OpA K r f) (i : ∀ x y m P, f' x y m P → f x y m P) : OpA K r f' := fun x y m P hh => h x y m P (i x y m P hh)
/-- what data reads as a list -/
def lstOf (m : Mu) : D → Option (List D)
  | .lst ds => some ds
  | .box a => match m a with
    | some (.lst ds) => some ds
    | _ => none
  | _ => none
/-- a + b -/
def fAdd : D → D → Mu → PD → Prop := fun x y m P => match x, y with
  | .int i, .int j => P (.int (i + j)) m
  | .str s, .str t => s.length + t.length ≤ 1000000 ∧ P (.str (s ++ t)) m
  | .tup s, .tup t => s.length + t.length ≤ 100000 ∧ P (.tup (s ++ t)) m
  | x, y => match lstOf m x, lstOf m y with
    | some s, some t => s.length + t.length ≤ 100000 ∧ P (.lst (s ++ t)) m
    | _, _ => False
def fAddB : D → D → Mu → PD → Prop := fun x y m P => match lstOf m x, lstOf m y with
    | some s, some t => s.length + t.length ≤ 100000 ∧ ∀ p, m p = none → P (.box p) (mset m p (.lst (s ++ t)))
    | _, _ => False
/-- a list's place as a tracked one -/
theorem lst_den {m : Mu} {H : Hp} {d : D} {v : V} {ds : List D} (r : Rep K H m) (h : Den K (R m H) d v) (e : lstOf m d = some ds) :
    ∃ p vs, v = .ref p ∧ H p = some (.lst vs) ∧ DenL K (R m H) ds vs := by
  cases d with
  | lst es =>
    cases e
    obtain ⟨a, vs, h1, h2, h3⟩ := h
    exact ⟨a, vs, h1, (R_of h2).2, h3⟩
  | box a =>
    have e' : (match m a with
      | some (.lst ds) => some ds
      | _ => none) = some ds := e
    cases hm : m a with
    | none =>
      rw [hm] at e'
      cases e'
    | some o =>
      rw [hm] at e'
      cases o with
      | lst es =>
        cases e'
        obtain ⟨vs, h1, h2⟩ := r a _ hm
        exact ⟨a, vs, h, h1, h2⟩
      | ins C dx fs => cases e'
      | dic mk kvs => cases e'
  | _ => cases e
def rAddS : R2 := fun x y H Q => ∃ i j, x = .str i ∧ y = .str j ∧ i.length + j.length ≤ sizeLine ∧ Q (.str (i ++ j)) H
def rAddU (K : PySem.W.Frag) : R2 := fun x y H Q => (rI0 (fun i j => .int (i + j)) x y H Q ∨ rAddS x y H Q) ∨ rCatA K x y H Q ∨ rCat x y H Q
theorem op_addU : OpR X (binaryOp .Add) (rAddU X.K) := OpR.or (OpR.or op_add op_add_str) (OpR.or op_catA op_cat)
theorem big_of {n : Nat} (h : n ≤ 1000000) : n ≤ sizeLine := Nat.le_trans h (by decide)
theorem cat_lists {m : Mu} {H : Hp} {x y : D} {v w : V} {s t : List D} (rp : Rep K H m) (d1 : Den K (R m H) x v) (d2 : Den K (R m H) y w) (e1 : lstOf m x = some s) (e2 : lstOf m y = some t)
    (hz : s.length + t.length ≤ 100000) {Q : VK} (q : ∀ p vs, H p = none → DenL K (R m H) (s ++ t) vs → Q (.ref p) (upd H p (.lst vs))) : rCat v w H Q := by
  obtain ⟨p, vs, rfl, hp, hd⟩ := lst_den rp d1 e1
  obtain ⟨p2, ws, rfl, hp2, hd2⟩ := lst_den rp d2 e2
  exact ⟨p, p2, vs, ws, rfl, rfl, hp, hp2, sz_of (by rw [hd.len, hd2.len]; exact hz), fun l hl => q l _ hl (hd.app hd2)⟩
theorem opA_add : OpA K (rAddU K) fAdd := fun x y m P h v w H rp d1 d2 Q q => by
  have lists : (match lstOf m x, lstOf m y with
    | some s, some t => s.length + t.length ≤ 100000 ∧ P (.lst (s ++ t)) m
    | _, _ => False) → rAddU K v w H Q := fun z => by
    cases e1 : lstOf m x with
    | none =>
      rw [e1] at z
      exact z.elim
    | some s =>
      cases e2 : lstOf m y with
      | none =>
        rw [e1, e2] at z
        exact z.elim
      | some t =>
        rw [e1, e2] at z
        refine .inr (.inr (cat_lists rp d1 d2 e1 e2 z.1 fun p vs hp hd => ?_))
        obtain ⟨p2, hr⟩ := Po.new (o := .lst vs) rp hp
        exact q _ _ _ m z.2 p2 ⟨p, vs, rfl, hr, DenL.mono p2.2 _ _ hd⟩
  cases x <;> cases y <;> first | exact lists h | skip
  · rename_i i j
    cases d1
    cases d2
    exact .inl (.inl ⟨i, j, rfl, rfl, q _ H _ m h (Po.refl rp) rfl⟩)
  · rename_i s t
    cases d1
    cases d2
    have h' : s.length + t.length ≤ 1000000 ∧ P (.str (s ++ t)) m := h
    exact .inl (.inr ⟨s, t, rfl, rfl, big_of h'.1, q _ H _ m h'.2 (Po.refl rp) rfl⟩)
  · rename_i s t
    have h' : s.length + t.length ≤ 100000 ∧ P (.tup (s ++ t)) m := h
    obtain ⟨a1, vs, rfl, s1, e1⟩ := d1
    obtain ⟨a2, ws, rfl, s2, e2⟩ := d2
    have up : Ex (R m H) H := fun a o q => (R_of q).2
    refine .inr (.inl ⟨a1, a2, vs, ws, rfl, rfl, ex_t up s1, ex_t up s2, sz_of (by rw [e1.len, e2.len]; exact h'.1), fun z => ?_, fun z0 z => ?_, fun _ _ p hp => ?_⟩)
    · subst z
      have hs : s = [] := List.eq_nil_of_length_eq_zero (by have := e1.len; simpa using this.symm)
      subst hs
      exact q _ H _ m h'.2 (Po.refl rp) ⟨a2, ws, rfl, s2, e2⟩
    · subst z
      have ht : t = [] := List.eq_nil_of_length_eq_zero (by have := e2.len; simpa using this.symm)
      subst ht
      have h2 := h'.2
      rw [List.append_nil] at h2
      exact q _ H _ m h2 (Po.refl rp) ⟨a1, vs, rfl, s1, e1⟩
    · obtain ⟨p2, hr⟩ := Po.new (o := .tup (vs ++ ws)) rp hp
      exact q _ _ _ m h'.2 p2 ⟨p, _, rfl, st_of hr, DenL.mono p2.2 _ _ (e1.app e2)⟩
theorem opA_addB : OpA K rCat fAddB := fun x y m P h v w H rp d1 d2 Q q => by
  have z : (match lstOf m x, lstOf m y with
    | some s, some t => s.length + t.length ≤ 100000 ∧ ∀ p, m p = none → P (.box p) (mset m p (.lst (s ++ t)))
    | _, _ => False) := h
  cases e1 : lstOf m x with
  | none =>
    rw [e1] at z
    exact z.elim
  | some s =>
    cases e2 : lstOf m y with
    | none =>
      rw [e1, e2] at z
      exact z.elim
    | some t =>
      rw [e1, e2] at z
      refine cat_lists rp d1 d2 e1 e2 z.1 fun p vs hp hd => ?_
      have p2 := Po.newL (ds := s ++ t) (vs := vs) rp hp hd
      exact q _ _ (.box p) _ (z.2 p (rp.fresh hp)) p2 rfl
theorem ae_add (ha : AE X S0 a fa) (hb : AE X S0 b fb) : AE X S0 (.BinOp a .Add b pos) (aOp fAdd fa fb) := ae_op op_addU opA_add ha hb
theorem ae_addB (ha : AE X S0 a fa) (hb : AE X S0 b fb) : AE X S0 (.BinOp a .Add b pos) (aOp fAddB fa fb) := ae_op op_cat opA_addB ha hb
def fSub := fI2 (fun i j => .int (i - j)) fun _ _ => True
theorem ae_sub (ha : AE X S0 a fa) (hb : AE X S0 b fb) : AE X S0 (.BinOp a .Sub b pos) (aOp fSub fa fb) := ae_op op_sub (opA_I0 fun _ _ _ => rfl) ha hb
def fFdiv := fI2 (fun i j => .int (i.fdiv j)) CDivN
theorem ae_fdiv (ha : AE X S0 a fa) (hb : AE X S0 b fb) : AE X S0 (.BinOp a .FloorDiv b pos) (aOp fFdiv fa fb) := ae_op op_fdivN (opA_I fun _ _ _ => rfl) ha hb
def fMod := fI2 (fun i j => .int (i.fmod j)) fun _ j => j ≠ 0
theorem ae_mod (ha : AE X S0 a fa) (hb : AE X S0 b fb) : AE X S0 (.BinOp a .Mod b pos) (aOp fMod fa fb) := ae_op op_modN (opA_I fun _ _ _ => rfl) ha hb
def fMul := fI2 (fun i j => .int (i * j)) CMul
theorem ae_mul (ha : AE X S0 a fa) (hb : AE X S0 b fb) : AE X S0 (.BinOp a .Mult b pos) (aOp fMul fa fb) := ae_op op_mul (opA_I fun _ _ _ => rfl) ha hb
end
end AL
set_option maxHeartbeats 1000000
namespace AL
open PySem L2 Evl
section
variable {X : Cx} {S0 : Hp} {a b c e : Expr} {es : List Expr} {fa fb fc : Ab} {ft fu : AbT} {fs fr : AbA} {pos : Pos} {K : PySem.W.Frag}
/-! ### comparisons -/
def eqD : D → D → Option Bool
  | .int i, .int j => some (decide (i = j))
  | .str i, .str j => some (decide (i = j))
  | .bl i, .bl j => some (decide (i = j))
  | .non, .non => some true
  | .int _, .str _ => some false
  | .str _, .int _ => some false
  | .non, .str _ => some false
  | .str _, .non => some false
  | .bl _, .str _ => some false
  | .str _, .bl _ => some false
  | .non, .int _ => some false
  | .int _, .non => some false
  | _, _ => none
def fEq : D → D → Mu → PD → Prop := fun x y m P => match eqD x y with
  | some b => P (.bl b) m
  | none => False
def fNe : D → D → Mu → PD → Prop := fun x y m P => match eqD x y with
  | some b => P (.bl (!b)) m
  | none => False
theorem eqD_ok {S : Hp} {x y : D} {v w : V} {k : Bool} (h : eqD x y = some k) (d1 : Den K S x v) (d2 : Den K S y w) : scal v w = true ∧ decide (v = w) = k := by
  cases x <;> cases y <;> first | cases h | skip
  all_goals (cases d1; cases d2; refine ⟨rfl, ?_⟩)
  all_goals first
    | rfl
    | (rename_i i j; rw [decide_eq_decide]; exact ⟨fun z => by cases z; rfl, fun z => by rw [z]⟩)
    | (apply decide_eq_false; intro z; cases z)
theorem opA_eq : OpA K rEq fEq := fun x y m P h v w H rp d1 d2 Q q => by
  unfold fEq at h
  cases e : eqD x y with
  | none =>
    rw [e] at h
    exact h.elim
  | some k =>
    rw [e] at h
    obtain ⟨h1, h2⟩ := eqD_ok e d1 d2
    refine ⟨h1, ?_⟩
    rw [h2]
    exact q _ H _ m h (Po.refl rp) rfl
theorem opA_ne : OpA K rNe fNe := fun x y m P h v w H rp d1 d2 Q q => by
  unfold fNe at h
  cases e : eqD x y with
  | none =>
    rw [e] at h
    exact h.elim
  | some k =>
    rw [e] at h
    obtain ⟨h1, h2⟩ := eqD_ok e d1 d2
    refine ⟨h1, ?_⟩
    rw [h2]
    exact q _ H _ m h (Po.refl rp) rfl
theorem at_eq (ha : AE X S0 a fa) (hb : AE X S0 b fb) (hm : behindInMarks .Eq b = false := by exact nomark _) : AT X S0 (.Compare a [.Eq] [b] pos) (aTest (aOp fEq fa fb)) := at_cmp op_eq opA_eq hm ha hb
theorem at_ne (ha : AE X S0 a fa) (hb : AE X S0 b fb) (hm : behindInMarks .NotEq b = false := by exact nomark _) : AT X S0 (.Compare a [.NotEq] [b] pos) (aTest (aOp fNe fa fb)) := at_cmp op_ne opA_ne hm ha hb
theorem ae_eq (ha : AE X S0 a fa) (hb : AE X S0 b fb) (hm : behindInMarks .Eq b = false := by exact nomark _) : AE X S0 (.Compare a [.Eq] [b] pos) (aOp fEq fa fb) := ae_cmp op_eq opA_eq hm ha hb
theorem ae_ne (ha : AE X S0 a fa) (hb : AE X S0 b fb) (hm : behindInMarks .NotEq b = false := by exact nomark _) : AE X S0 (.Compare a [.NotEq] [b] pos) (aOp fNe fa fb) := ae_cmp op_ne opA_ne hm ha hb
def fLt := fI2 (fun i j => .bl (decide (i < j))) fun _ _ => True
def fLe := fI2 (fun i j => .bl (decide (i ≤ j))) fun _ _ => True
def fGt := fI2 (fun i j => .bl (decide (j < i))) fun _ _ => True
def fGe := fI2 (fun i j => .bl (decide (j ≤ i))) fun _ _ => True
theorem at_lt (ha : AE X S0 a fa) (hb : AE X S0 b fb) (hm : behindInMarks .Lt b = false := by exact nomark _) : AT X S0 (.Compare a [.Lt] [b] pos) (aTest (aOp fLt fa fb)) := at_cmp op_lt (opA_I0 fun _ _ _ => rfl) hm ha hb
theorem at_le (ha : AE X S0 a fa) (hb : AE X S0 b fb) (hm : behindInMarks .LtE b = false := by exact nomark _) : AT X S0 (.Compare a [.LtE] [b] pos) (aTest (aOp fLe fa fb)) := at_cmp op_le (opA_I0 fun _ _ _ => rfl) hm ha hb
theorem at_gt (ha : AE X S0 a fa) (hb : AE X S0 b fb) (hm : behindInMarks .Gt b = false := by exact nomark _) : AT X S0 (.Compare a [.Gt] [b] pos) (aTest (aOp fGt fa fb)) := at_cmp op_gt (opA_I0 fun _ _ _ => rfl) hm ha hb
theorem at_ge (ha : AE X S0 a fa) (hb : AE X S0 b fb) (hm : behindInMarks .GtE b = false := by exact nomark _) : AT X S0 (.Compare a [.GtE] [b] pos) (aTest (aOp fGe fa fb)) := at_cmp op_ge (opA_I0 fun _ _ _ => rfl) hm ha hb
/-- is None -/
def isN : D → Option Bool
  | .non => some true
  | _ => some false
def aIsN (neg : Bool) (fa : Ab) : Ab := fun g m P => fa g m fun d m1 => P (.bl (if neg then !(decide (isN d = some true)) else decide (isN d = some true))) m1
theorem isN_ok {S : Hp} {d : D} {v : V} (h : Den K S d v) : decide (v = .non) = decide (isN d = some true) := by
  cases d <;> first
    | (cases h; rfl)
    | (obtain ⟨a, vs, rfl, _⟩ := h; rfl)
    | (obtain ⟨a, rfl, _⟩ := h; rfl)
theorem ae_isN {n p : Pos} (ha : AE X S0 a fa) : AE X S0 (.Compare a [.Is] [.Constant .none 0 n] p) (aIsN false fa) := by
  obtain ⟨t, p, s⟩ := ha.ex
  refine ⟨_, pe_cmp (pc_isN p) rfl, fun g m P h st H rp e0 en Q q => s g m _ h st H rp e0 en _ fun v H1 d m1 h1 p1 d1 => ?_⟩
  rw [isN_ok d1]
  exact q _ H1 _ m1 h1 p1 rfl
theorem ae_notN {n p : Pos} (ha : AE X S0 a fa) : AE X S0 (.Compare a [.IsNot] [.Constant .none 0 n] p) (aIsN true fa) := by
  obtain ⟨t, p, s⟩ := ha.ex
  refine ⟨_, pe_cmp (pc_notN p) rfl, fun g m P h st H rp e0 en Q q => s g m _ h st H rp e0 en _ fun v H1 d m1 h1 p1 d1 => ?_⟩
  rw [isN_ok d1]
  exact q _ H1 _ m1 h1 p1 rfl
theorem at_bool {fa : Ab} (ha : AE X S0 a fa) (hb : ∀ w, isTrue a X.env w = (do let v ← w; standAt a.pos; holding [v] (truthy v)) := by intro _; rfl) : AT X S0 a (aTest fa) := at_val ha hb
/-- sign in text -/
def fIn : D → D → Mu → PD → Prop := fun x y m P => match x, y with
  | .str s, .str z => ∃ c, s = ⟨#[c]⟩ ∧ P (.bl (decide (c ∈ z.cps.toList))) m
  | _, _ => False
def fNi : D → D → Mu → PD → Prop := fun x y m P => match x, y with
  | .str s, .str z => ∃ c, s = ⟨#[c]⟩ ∧ P (.bl (!decide (c ∈ z.cps.toList))) m
  | _, _ => False
theorem opA_in : OpA K (fun x y H Q => ∃ (c : Nat) (z : Str), x = .str ⟨#[c]⟩ ∧ y = .str z ∧ Q (.bl (decide (c ∈ z.cps.toList))) H) fIn := fun x y m P h v w H rp d1 d2 Q q => by
  cases x <;> cases y <;> first | exact (show False from h).elim | skip
  cases d1
  cases d2
  obtain ⟨c, rfl, h⟩ := h
  exact ⟨c, _, rfl, rfl, q _ H _ m h (Po.refl rp) rfl⟩
theorem opA_ni : OpA K (fun x y H Q => ∃ (c : Nat) (z : Str), x = .str ⟨#[c]⟩ ∧ y = .str z ∧ Q (.bl (!decide (c ∈ z.cps.toList))) H) fNi := fun x y m P h v w H rp d1 d2 Q q => by
  cases x <;> cases y <;> first | exact (show False from h).elim | skip
  cases d1
  cases d2
  obtain ⟨c, rfl, h⟩ := h
  exact ⟨c, _, rfl, rfl, q _ H _ m h (Po.refl rp) rfl⟩
theorem at_in (ha : AE X S0 a fa) (hb : AE X S0 b fb) (hm : behindInMarks .In b = false := by rfl) : AT X S0 (.Compare a [.In] [b] pos) (aTest (aOp fIn fa fb)) := at_cmp op_in_sign opA_in hm ha hb
theorem at_ni (ha : AE X S0 a fa) (hb : AE X S0 b fb) (hm : behindInMarks .NotIn b = false := by rfl) : AT X S0 (.Compare a [.NotIn] [b] pos) (aTest (aOp fNi fa fb)) := at_cmp op_notIn_sign opA_ni hm ha hb
theorem ae_in (ha : AE X S0 a fa) (hb : AE X S0 b fb) (hm : behindInMarks .In b = false := by rfl) : AE X S0 (.Compare a [.In] [b] pos) (aOp fIn fa fb) := ae_cmp op_in_sign opA_in hm ha hb
/-! ### an item, a slice -/
def fIx : D → D → Mu → PD → Prop := fun x y m P => match y with
  | .int i => match x with
    | .str z => z.length ≤ 1000000 ∧ match atI z.cps.toList i with
      | some c => P (.str ⟨#[c]⟩) m
      | none => False
    | x => match seqOf m x with
      | some ds => match atI ds i with
        | some d => P d m
        | none => False
      | none => False
  | _ => False
theorem opA_ix : OpA K (rIx K) fIx := fun x y m P h v w H rp d1 d2 Q q => by
  cases y <;> first | exact (show False from h).elim | skip
  rename_i i
  cases d2
  have row : (match seqOf m x with
      | some ds => match atI ds i with
        | some d => P d m
        | none => False
      | none => False) → rIx K v (.int i) H Q := fun z => by
    cases e : seqOf m x with
    | none =>
      rw [e] at z
      exact z.elim
    | some ds =>
      rw [e] at z
      have z' : (match atI ds i with
        | some d => P d m
        | none => False) := z
      cases e2 : atI ds i with
      | none =>
        rw [e2] at z'
        exact z'.elim
      | some d =>
        rw [e2] at z'
        obtain ⟨p, vs, rfl, hs, hd⟩ := seq_den rp d1 e
        obtain ⟨u, h1, h2⟩ := hd.atI e2
        rcases hs with hs | hs
        · exact .inl ⟨p, vs, i, u, rfl, rfl, hs, h1, q u H d m z' (Po.refl rp) h2⟩
        · exact .inr (.inl ⟨p, vs, i, u, rfl, rfl, hs, h1, q u H d m z' (Po.refl rp) h2⟩)
  cases x <;> first | exact row h | skip
  rename_i z
  cases d1
  have h' : z.length ≤ 1000000 ∧ (match atI z.cps.toList i with
      | some c => P (.str ⟨#[c]⟩) m
      | none => False) := h
  obtain ⟨hz, h'⟩ := h'
  cases e : atI z.cps.toList i with
  | none =>
    rw [e] at h'
    exact h'.elim
  | some c =>
    rw [e] at h'
    exact .inr (.inr ⟨z, i, c, rfl, rfl, big_of hz, e, q _ H _ m h' (Po.refl rp) rfl⟩)
theorem ae_ix (ha : AE X S0 a fa) (hb : AE X S0 b fb) (hp : PlainIx b := by exact fun _ _ => rfl) : AE X S0 (.Subscript a b pos) (aOp fIx fa fb) := by
  obtain ⟨ta, pa, sa⟩ := ha.ex
  obtain ⟨tb, pb, sb⟩ := hb.ex
  exact ⟨_, pe_ix ix_seq pa pb hp, aop_sound opA_ix sa sb⟩
abbrev AbO := Sl → Mu → (Option Int → Mu → Prop) → Prop
structure AO (X : Cx) (S0 : Hp) (e : Option Expr) (f : AbO) : Prop where
  ex : ∃ t, PO X e t ∧ ∀ g m P, f g m P → ∀ st H, Rep X.K H m → Ex S0 (R m H) → Env X.K (R m H) g st → ∀ Q : Option Int → Hp → Prop, (∀ o H' m', P o m' → Po X.K m H m' H' → Q o H') → t st H Q
def aNo : AbO := fun _ m P => P none m
def aPart (fa : Ab) : AbO := fun g m P => fa g m fun d m1 => match d with
  | .int i => P (some i) m1
  | _ => False
theorem ao_none : AO X S0 none aNo := ⟨_, po_none, fun g m P h st H rp e0 en Q q => q none H m h (Po.refl rp)⟩
theorem ao_some (ha : AE X S0 a fa) : AO X S0 (some a) (aPart fa) := by
  obtain ⟨t, p, s⟩ := ha.ex
  refine ⟨_, po_some p, fun g m P h st H rp e0 en Q q => s g m _ h st H rp e0 en _ fun v H1 d m1 h1 p1 d1 => ?_⟩
  cases d <;> first | exact (show False from h1).elim | skip
  cases d1
  exact ⟨_, rfl, q _ H1 m1 h1 p1⟩
def cutD (ds : List D) (lo hi : Option Int) : List D := (ds.drop (HT.sIx ds.length 0 lo)).take (HT.sIx ds.length ds.length hi - HT.sIx ds.length 0 lo)
def fSl : D → Option Int → Option Int → Mu → PD → Prop := fun x lo hi m P => match x with
  | .str z => z.length ≤ 1000000 ∧ P (.str (cutS z lo hi)) m
  | .tup ds => P (.tup (cutD ds lo hi)) m
  | x => match lstOf m x with
    | some ds => P (.lst (cutD ds lo hi)) m
    | none => False
def rSlU (K : PySem.W.Frag) : V → Option Int → Option Int → Hp → VK → Prop := fun x lo hi H Q => rSlS x lo hi H Q ∨ rSlA K x lo hi H Q ∨ rSlL K x lo hi H Q
theorem sl_U : SlR X (rSlU X.K) := SlR.or sl_str (SlR.or sl_tupA sl_list)
def aSl (fa : Ab) (fl fh : AbO) : Ab := fun g m P => fa g m fun x m1 => fl g m1 fun lo m2 => fh g m2 fun hi m3 => fSl x lo hi m3 P
theorem cut_whole {vs : List V} {lo hi : Option Int} (h : HT.sIx vs.length 0 lo = 0 ∧ HT.sIx vs.length vs.length hi = vs.length) : cutV vs lo hi = vs := by
  unfold cutV
  rw [h.1, h.2]
  simp
theorem slA_ok {x : D} {lo hi : Option Int} {m : Mu} {P : PD} (h : fSl x lo hi m P) {v : V} {H : Hp} (rp : Rep K H m) (d1 : Den K (R m H) x v) {Q : VK} (q : ∀ z H' d m', P d m' → Po K m H m' H' → Den K (R m' H') d z → Q z H') : rSlU K v lo hi H Q := by
  have row : (match lstOf m x with
    | some ds => P (.lst (cutD ds lo hi)) m
    | none => False) → rSlU K v lo hi H Q := fun z => by
    cases e : lstOf m x with
    | none =>
      rw [e] at z
      exact z.elim
    | some ds =>
      rw [e] at z
      obtain ⟨p, vs, rfl, hs, hd⟩ := lst_den rp d1 e
      refine .inr (.inr ⟨p, vs, rfl, sq_of hs, fun l hl => ?_⟩)
      obtain ⟨p2, hr⟩ := Po.new (o := .lst (cutV vs lo hi)) rp hl
      exact q _ _ _ m z p2 ⟨l, _, rfl, hr, DenL.mono p2.2 _ _ hd.cut⟩
  cases x <;> first | exact row h | skip
  · rename_i z
    cases d1
    exact .inl ⟨z, rfl, big_of h.1, q _ H _ m h.2 (Po.refl rp) rfl⟩
  · rename_i ds
    obtain ⟨a1, vs, rfl, s1, e1⟩ := d1
    have up : Ex (R m H) H := fun a o q => (R_of q).2
    have h' : P (.tup (cutD ds lo hi)) m := h
    refine .inr (.inl ⟨a1, vs, rfl, ex_t up s1, fun z => ?_, fun z p hp => ?_⟩)
    · refine q _ H _ m h' (Po.refl rp) ⟨a1, vs, rfl, s1, ?_⟩
      have := e1.cut (lo := lo) (hi := hi)
      rw [cut_whole z] at this
      exact this
    · obtain ⟨p2, hr⟩ := Po.new (o := .tup (cutV vs lo hi)) rp hp
      exact q _ _ _ m h' p2 ⟨p, _, rfl, st_of hr, DenL.mono p2.2 _ _ e1.cut⟩
theorem ae_sl {lo hi : Option Expr} {fl fh : AbO} {p2 : Pos} (ha : AE X S0 a fa) (hl : AO X S0 lo fl) (hh : AO X S0 hi fh) : AE X S0 (.Subscript a (.Slice lo hi none p2) pos) (aSl fa fl fh) := by
  obtain ⟨ta, pa, sa⟩ := ha.ex
  obtain ⟨tb, pb, sb⟩ := hl.ex
  obtain ⟨tc, pc, sc⟩ := hh.ex
  refine ⟨_, pe_slice sl_U pa pb pc, fun g m P h st H rp e0 en Q q => sa g m _ h st H rp e0 en _ fun v H1 d m1 h1 p1 d1 => ?_⟩
  refine sb g m1 _ h1 st H1 p1.1 (e0.trans p1.2) (en.mono p1.2) _ fun l H2 m2 h2 q2 => ?_
  have p12 := p1.trans q2
  refine sc g m2 _ h2 st H2 q2.1 (e0.trans p12.2) (en.mono p12.2) _ fun u H3 m3 h3 q3 => ?_
  exact slA_ok h3 q3.1 (Den.mono (q2.trans q3).2 _ _ d1) fun z H4 d4 m4 h4 q4 d4' => q z H4 d4 m4 h4 (p12.trans (q3.trans q4)) d4'
/-! ### calls of what is built in -/
def CaA (K : PySem.W.Frag) (r : List V → Hp → VK → Prop) (f : List D → Mu → PD → Prop) : Prop :=
  ∀ xs m P, f xs m P → ∀ vs H, Rep K H m → DenL K (R m H) xs vs → ∀ Q : VK, (∀ z H' d m', P d m' → Po K m H m' H' → Den K (R m' H') d z → Q z H') → r vs H Q
def aCa (f : List D → Mu → PD → Prop) (fs : AbA) : Ab := fun g m P => fs g m fun ds m1 => f ds m1 P
theorem ca_sound {S0 : Hp} {r : List V → Hp → VK → Prop} {f : List D → Mu → PD → Prop} {t : TA} (hr : CaA K r f) (s : ∀ g m P, fs g m P → WA K S0 t g m P) : ∀ g m P, aCa f fs g m P → WX K S0 (fun st H Q => t st H fun vs H1 => r vs H1 Q) g m P :=
  fun g m P h st H rp e0 en Q q => s g m _ h st H rp e0 en _ fun vs H1 ds m1 h1 p1 d1 => hr ds m1 P h1 vs H1 p1.1 d1 Q fun z H2 d m2 h2 p2 d2 => q z H2 d m2 h2 (p1.trans p2) d2
theorem ae_cb {r : List V → Hp → VK → Prop} {f : List D → Mu → PD → Prop} {id : String} {x : Str} {p : Pos} (hc : CallR X (.builtin id) r) (hr : CaA X.K r f) (hg : Gl X x) (hm : X.mg x = none) (hv : bootBuiltins x = some (.builtin id)) (ha : AA X S0 (e :: es) fs)
    (hn : x ≠ "__name__" := by decide) (hdb : (x == ("__debug__" : Str)) = false := by decide)
    (he : starEach (e :: es) X.env = (false, eval e X.env) :: starEach es X.env := by rfl) (hpl : (backTo pos (starEach es X.env)).any (·.1) = false := by rfl) : AE X S0 (.Call (.Name x p) (e :: es) [] pos) (aCa f fs) := by
  obtain ⟨t, pt, s⟩ := ha.ex
  exact ⟨_, pe_callB hc hg hm hv pt hn hdb he hpl, ca_sound hr s⟩
end
end AL
set_option maxHeartbeats 1000000
namespace AL
open PySem L2 Evl
section
variable {X : Cx} {S0 : Hp} {a b c e : Expr} {es : List Expr} {fa fb fc : Ab} {ft fu : AbT} {fs fr : AbA} {pos : Pos} {K : PySem.W.Frag}
theorem ae_ct {r : List V → Hp → VK → Prop} {f : List D → Mu → PD → Prop} {T : String} {x : Str} {p : Pos} (hc : CallR X (.type T) r) (hr : CaA X.K r f) (hg : Gl X x) (hm : X.mg x = none) (hv : bootBuiltins x = some (.type T)) (ha : AA X S0 (e :: es) fs)
    (hn : x ≠ "__name__" := by decide) (hdb : (x == ("__debug__" : Str)) = false := by decide)
    (he : starEach (e :: es) X.env = (false, eval e X.env) :: starEach es X.env := by rfl) (hpl : (backTo pos (starEach es X.env)).any (·.1) = false := by rfl) : AE X S0 (.Call (.Name x p) (e :: es) [] pos) (aCa f fs) := by
  obtain ⟨t, pt, s⟩ := ha.ex
  exact ⟨_, pe_callTy hc hg hm hv pt hn hdb he hpl, ca_sound hr s⟩
theorem den1 {S : Hp} {d : D} {vs : List V} (h : DenL K S [d] vs) : ∃ v, vs = [v] ∧ Den K S d v := by
  obtain ⟨v, r, rfl, h1, h2⟩ := h
  rw [show r = [] from h2]
  exact ⟨v, rfl, h1⟩
theorem den2 {S : Hp} {d d' : D} {vs : List V} (h : DenL K S [d, d'] vs) : ∃ v w, vs = [v, w] ∧ Den K S d v ∧ Den K S d' w := by
  obtain ⟨v, r, rfl, h1, h2⟩ := h
  obtain ⟨w, rfl, h3⟩ := den1 h2
  exact ⟨v, w, rfl, h1, h3⟩
/-- len -/
def lenD (m : Mu) : D → Option Int
  | .str z => if z.length ≤ 1000000 then some z.length else none
  | d => (seqOf m d).map fun ds => (ds.length : Int)
def fLen : List D → Mu → PD → Prop := fun xs m P => match xs with
  | [d] => match lenD m d with
    | some n => P (.int n) m
    | none => False
  | _ => False
theorem caA_len : CaA K (fun xs H Q => ∃ x n, xs = [x] ∧ LenV K x H n ∧ Q (.int (n : Nat)) H) fLen := fun xs m P h vs H rp dl Q q => by
  match xs, h with
  | [d], h =>
    have h : (match lenD m d with
      | some n => P (.int n) m
      | none => False) := h
    obtain ⟨v, rfl, dv⟩ := den1 dl
    cases e : lenD m d with
    | none =>
      rw [e] at h
      exact h.elim
    | some n =>
      rw [e] at h
      have row : ∀ ds, seqOf m d = some ds → n = (ds.length : Int) → ∃ x k, [v] = [x] ∧ LenV K x H k ∧ Q (.int (k : Nat)) H := fun ds e1 en => by
        obtain ⟨p, ws, rfl, hs, hd⟩ := seq_den rp dv e1
        refine ⟨.ref p, ds.length, rfl, ?_, ?_⟩
        · rcases hs with z | z
          · exact .inl ⟨ws, z, hd.len.symm⟩
          · exact .inr ⟨ws, z, hd.len.symm⟩
        · rw [← en]
          exact q _ H _ m h (Po.refl rp) rfl
      have row' : (seqOf m d).map (fun ds => (ds.length : Int)) = some n → ∃ x k, [v] = [x] ∧ LenV K x H k ∧ Q (.int (k : Nat)) H := fun z => by
        cases e1 : seqOf m d with
        | none =>
          rw [e1] at z
          cases z
        | some ds =>
          rw [e1] at z
          cases z
          exact row ds e1 rfl
      cases d <;> first | exact row' e | skip
      rename_i z
      have e2 : (if z.length ≤ 1000000 then some (z.length : Int) else none) = some n := e
      by_cases hz : z.length ≤ 1000000
      · rw [if_pos hz] at e2
        cases e2
        cases dv
        exact ⟨.str z, z.length, rfl, ⟨big_of hz, rfl⟩, q _ H _ m h (Po.refl rp) rfl⟩
      · rw [if_neg hz] at e2
        cases e2
theorem ae_len {p : Pos} (hm : X.mg "len" = none) (ha : AA X S0 (e :: es) fs) (hg : Gl X "len" := by rfl) (he : starEach (e :: es) X.env = (false, eval e X.env) :: starEach es X.env := by rfl) (hpl : (backTo pos (starEach es X.env)).any (·.1) = false := by rfl) :
    AE X S0 (.Call (.Name "len" p) (e :: es) [] pos) (aCa fLen fs) := ae_cb call_len caA_len hg hm PySem.boot_len ha (by decide) (by decide) he hpl
/-- int of an int -/
def fInt : List D → Mu → PD → Prop := fun xs m P => match xs with
  | [.int i] => P (.int i) m
  | _ => False
theorem caA_int : CaA K (fun xs H Q => (∃ i, xs = [V.int i] ∧ Q (.int i) H) ∨ ∃ k, xs = [V.bl k] ∧ Q (.int (if k then 1 else 0)) H) fInt := fun xs m P h vs H rp dl Q q => by
  match xs, h with
  | [.int i], h =>
    obtain ⟨v, rfl, dv⟩ := den1 dl
    cases dv
    exact .inl ⟨i, rfl, q _ H _ m h (Po.refl rp) rfl⟩
theorem ae_int {p : Pos} (hm : X.mg "int" = none) (ha : AA X S0 (e :: es) fs) (hg : Gl X "int" := by rfl) (he : starEach (e :: es) X.env = (false, eval e X.env) :: starEach es X.env := by rfl) (hpl : (backTo pos (starEach es X.env)).any (·.1) = false := by rfl) :
    AE X S0 (.Call (.Name "int" p) (e :: es) [] pos) (aCa fInt fs) := ae_ct call_int1 caA_int hg hm (by decide +kernel) ha (by decide) (by decide) he hpl
def fMax : List D → Mu → PD → Prop := fun xs m P => match xs with
  | [.int i, .int j] => P (.int (if j > i then j else i)) m
  | _ => False
def fMin : List D → Mu → PD → Prop := fun xs m P => match xs with
  | [.int i, .int j] => P (.int (if j < i then j else i)) m
  | _ => False
theorem caA_max : CaA K (fun xs H Q => ∃ i j, xs = [V.int i, V.int j] ∧ Q (.int (if j > i then j else i)) H) fMax := fun xs m P h vs H rp dl Q q => by
  match xs, h with
  | [.int i, .int j], h =>
    obtain ⟨v, w, rfl, d1, d2⟩ := den2 dl
    cases d1
    cases d2
    exact ⟨i, j, rfl, q _ H _ m h (Po.refl rp) rfl⟩
theorem caA_min : CaA K (fun xs H Q => ∃ i j, xs = [V.int i, V.int j] ∧ Q (.int (if j < i then j else i)) H) fMin := fun xs m P h vs H rp dl Q q => by
  match xs, h with
  | [.int i, .int j], h =>
    obtain ⟨v, w, rfl, d1, d2⟩ := den2 dl
    cases d1
    cases d2
    exact ⟨i, j, rfl, q _ H _ m h (Po.refl rp) rfl⟩
theorem ae_max {p : Pos} (hc : X.calm = true) (hm : X.mg "max" = none) (ha : AA X S0 (e :: es) fs) (hg : Gl X "max" := by rfl) (he : starEach (e :: es) X.env = (false, eval e X.env) :: starEach es X.env := by rfl) (hpl : (backTo pos (starEach es X.env)).any (·.1) = false := by rfl) :
    AE X S0 (.Call (.Name "max" p) (e :: es) [] pos) (aCa fMax fs) := ae_cb (call_max2 hc) caA_max hg hm (by decide +kernel) ha (by decide) (by decide) he hpl
theorem ae_min {p : Pos} (hc : X.calm = true) (hm : X.mg "min" = none) (ha : AA X S0 (e :: es) fs) (hg : Gl X "min" := by rfl) (he : starEach (e :: es) X.env = (false, eval e X.env) :: starEach es X.env := by rfl) (hpl : (backTo pos (starEach es X.env)).any (·.1) = false := by rfl) :
    AE X S0 (.Call (.Name "min" p) (e :: es) [] pos) (aCa fMin fs) := ae_cb (call_min2 hc) caA_min hg hm (by decide +kernel) ha (by decide) (by decide) he hpl
/-- tuple(list), list(..) -/
def fTuple : List D → Mu → PD → Prop := fun xs m P => match xs with
  | [d] => match seqOf m d with
    | some ds => P (.tup ds) m
    | none => False
  | _ => False
theorem caA_tuple : CaA K (fun xs H Q => ∃ p ys, xs = [V.ref p] ∧ ((SqL K H p ys ∧ ∀ l, H l = none → Q (.ref l) (upd H l (.tup ys))) ∨ (SqT K H p ys ∧ Q (.ref p) H))) fTuple := fun xs m P h vs H rp dl Q q => by
  match xs, h with
  | [d], h =>
    have h : (match seqOf m d with
      | some ds => P (.tup ds) m
      | none => False) := h
    obtain ⟨v, rfl, dv⟩ := den1 dl
    have lists : ∀ ds, lstOf m d = some ds → P (.tup ds) m → ∃ p ys, [v] = [V.ref p] ∧ ((SqL K H p ys ∧ ∀ l, H l = none → Q (.ref l) (upd H l (.tup ys))) ∨ (SqT K H p ys ∧ Q (.ref p) H)) := fun ds e1 hp => by
      obtain ⟨p, ws, rfl, hs, hd⟩ := lst_den rp dv e1
      refine ⟨p, ws, rfl, .inl ⟨sq_of hs, fun l hl => ?_⟩⟩
      obtain ⟨p2, hr⟩ := Po.new (o := .tup ws) rp hl
      exact q _ _ _ m hp p2 ⟨l, _, rfl, st_of hr, DenL.mono p2.2 _ _ hd⟩
    cases d <;> first | exact (show False from h).elim | skip
    · rename_i a h0
      cases e1 : lstOf m (.box a) with
      | none =>
        have e2 : seqOf m (.box a) = none := e1
        rw [e2] at h
        exact h.elim
      | some ds =>
        have e2 : seqOf m (.box a) = some ds := e1
        rw [e2] at h
        exact lists ds e1 h
    · rename_i ds h0
      obtain ⟨p, ws, rfl, hs, hd⟩ := dv
      have up : Ex (R m H) H := fun a o q => (R_of q).2
      exact ⟨p, ws, rfl, .inr ⟨ex_t up hs, q _ H (.tup ds) m h (Po.refl rp) ⟨p, ws, rfl, hs, hd⟩⟩⟩
    · rename_i ds h0
      exact lists ds rfl h
    · rename_i ns h0
      obtain ⟨p, rfl, hs⟩ := dv
      have up : Ex (R m H) H := fun a o q => (R_of q).2
      refine ⟨p, _, rfl, .inl ⟨ex_l up hs, fun l hl => ?_⟩⟩
      obtain ⟨p2, hr⟩ := Po.new (o := .tup (ns.map V.int)) rp hl
      exact q _ _ _ m h p2 ⟨l, _, rfl, st_of hr, DenL.ints ns⟩
theorem ae_tuple {p : Pos} (hm : X.mg "tuple" = none) (ha : AA X S0 (e :: es) fs) (hg : Gl X "tuple" := by rfl) (he : starEach (e :: es) X.env = (false, eval e X.env) :: starEach es X.env := by rfl) (hpl : (backTo pos (starEach es X.env)).any (·.1) = false := by rfl) :
    AE X S0 (.Call (.Name "tuple" p) (e :: es) [] pos) (aCa fTuple fs) := ae_ct call_tuple_of caA_tuple hg hm (by decide +kernel) ha (by decide) (by decide) he hpl
def fList : List D → Mu → PD → Prop := fun xs m P => match xs with
  | [d] => match seqOf m d with
    | some ds => P (.lst ds) m
    | none => False
  | _ => False
theorem caA_list : CaA K (fun xs H Q => ∃ p ys, xs = [V.ref p] ∧ (SqL K H p ys ∨ SqT K H p ys) ∧ ∀ l, H l = none → Q (.ref l) (upd H l (.lst ys))) fList := fun xs m P h vs H rp dl Q q => by
  match xs, h with
  | [d], h =>
    have h : (match seqOf m d with
      | some ds => P (.lst ds) m
      | none => False) := h
    obtain ⟨v, rfl, dv⟩ := den1 dl
    cases e1 : seqOf m d with
    | none =>
      rw [e1] at h
      exact h.elim
    | some ds =>
      rw [e1] at h
      obtain ⟨p, ws, rfl, hs, hd⟩ := seq_den rp dv e1
      refine ⟨p, ws, rfl, hs, fun l hl => ?_⟩
      obtain ⟨p2, hr⟩ := Po.new (o := .lst ws) rp hl
      exact q _ _ _ m h p2 ⟨l, _, rfl, hr, DenL.mono p2.2 _ _ hd⟩
theorem ae_list {p : Pos} (hm : X.mg "list" = none) (ha : AA X S0 (e :: es) fs) (hg : Gl X "list" := by rfl) (he : starEach (e :: es) X.env = (false, eval e X.env) :: starEach es X.env := by rfl) (hpl : (backTo pos (starEach es X.env)).any (·.1) = false := by rfl) :
    AE X S0 (.Call (.Name "list" p) (e :: es) [] pos) (aCa fList fs) := ae_ct call_list_of caA_list hg hm (by decide +kernel) ha (by decide) (by decide) he hpl
/-- isinstance(x, T), T int, bool, str, tuple, list -/
def tyOf (m : Mu) : D → Option String
  | .non => some "NoneType"
  | .bl _ => some "bool"
  | .int _ => some "int"
  | .str _ => some "str"
  | .tup _ => some "tuple"
  | .lst _ => some "list"
  | .scr _ => none
  | .box a => match m a with
    | some (.lst _) => some "list"
    | _ => none
  | .ty _ => none
def isiT (t T : String) : Option Bool :=
  if T = "int" then some (t == "int" || t == "bool") else if T = "bool" then some (t == "bool") else if T = "str" then some (t == "str") else if T = "tuple" then some (t == "tuple") else if T = "list" then some (t == "list") else none
def fIsi : List D → Mu → PD → Prop := fun xs m P => match xs with
  | [x, .ty T] => match tyOf m x with
    | some t => match isiT t T with
      | some b => P (.bl b) m
      | none => False
    | none => False
  | _ => False
theorem tyOf_den {m : Mu} {H : Hp} {d : D} {v : V} {t : String} (rp : Rep K H m) (h : Den K (R m H) d v) (e : tyOf m d = some t) : TyX K H v (.type t) := by
  cases d with
  | non =>
    cases h
    cases e
    exact .base .non
  | bl b =>
    cases h
    cases e
    exact .base (.bl b)
  | int i =>
    cases h
    cases e
    exact .base (.int i)
  | str x =>
    cases h
    cases e
    exact .base (.str x)
  | ty n => cases e
  | scr n => cases e
  | tup ds =>
    cases e
    obtain ⟨p, ws, rfl, hs, hd⟩ := h
    rcases hs with (hs | ⟨o, hs⟩) | ⟨o, its, n, h1, h2, _⟩
    · exact .base (.tup (R_of hs).2)
    · exact .fTuple (R_of hs).2
    · exact .kTuple h1 h2
  | lst ds =>
    cases e
    obtain ⟨p, ws, rfl, hs, hd⟩ := h
    exact .base (.lst (R_of hs).2)
  | box a =>
    have e' : (match m a with
      | some (.lst _) => some "list"
      | _ => none) = some t := e
    cases hm : m a with
    | none =>
      rw [hm] at e'
      cases e'
    | some o =>
      rw [hm] at e'
      cases o with
      | lst es =>
        cases e'
        obtain ⟨vs, h1, h2⟩ := rp a _ hm
        cases h
        exact .base (.lst h1)
      | ins C dx fs => cases e'
      | dic mk kvs => cases e'
theorem isiT_ok {t T : String} {b : Bool} (h : isiT t T = some b) (ht : t = "NoneType" ∨ t = "bool" ∨ t = "int" ∨ t = "str" ∨ t = "tuple" ∨ t = "list") : kitB t T = some b := by
  unfold isiT at h
  split at h
  · subst T
    cases h
    rcases ht with rfl | rfl | rfl | rfl | rfl | rfl <;> decide +kernel
  · split at h
    · subst T
      cases h
      rcases ht with rfl | rfl | rfl | rfl | rfl | rfl <;> decide +kernel
    · split at h
      · subst T
        cases h
        rcases ht with rfl | rfl | rfl | rfl | rfl | rfl <;> decide +kernel
      · split at h
        · subst T
          cases h
          rcases ht with rfl | rfl | rfl | rfl | rfl | rfl <;> decide +kernel
        · split at h
          · subst T
            cases h
            rcases ht with rfl | rfl | rfl | rfl | rfl | rfl <;> decide +kernel
          · cases h
theorem tyOf_few {m : Mu} {d : D} {t : String} (e : tyOf m d = some t) : t = "NoneType" ∨ t = "bool" ∨ t = "int" ∨ t = "str" ∨ t = "tuple" ∨ t = "list" := by
  cases d with
  | box a =>
    have e' : (match m a with
      | some (.lst _) => some "list"
      | _ => none) = some t := e
    cases hm : m a with
    | none =>
      rw [hm] at e'
      cases e'
    | some o =>
      rw [hm] at e'
      cases o with
      | lst es =>
        cases e'
        simp
      | ins C dx fs => cases e'
      | dic mk kvs => cases e'
  | ty n => cases e
  | scr n => cases e
  | _ =>
    cases e
    simp
theorem caA_isi : CaA K (rIsi K) fIsi := fun xs m P h vs H rp dl Q q => by
  match xs, h with
  | [x, .ty T], h =>
    have h : (match tyOf m x with
      | some t => match isiT t T with
        | some b => P (.bl b) m
        | none => False
      | none => False) := h
    obtain ⟨v, w, rfl, d1, d2⟩ := den2 dl
    cases d2
    cases e : tyOf m x with
    | none =>
      rw [e] at h
      exact h.elim
    | some t =>
      rw [e] at h
      have h : (match isiT t T with
        | some b => P (.bl b) m
        | none => False) := h
      cases e2 : isiT t T with
      | none =>
        rw [e2] at h
        exact h.elim
      | some b =>
        rw [e2] at h
        exact ⟨v, .ty T, .type t, .type T, b, rfl, .ty T, tyOf_den rp d1 e, kit_ty (isiT_ok e2 (tyOf_few e)), q _ H _ m h (Po.refl rp) rfl⟩
theorem ae_isi {p : Pos} (hm : X.mg "isinstance" = none) (ha : AA X S0 (e :: es) fs) (hg : Gl X "isinstance" := by rfl) (he : starEach (e :: es) X.env = (false, eval e X.env) :: starEach es X.env := by rfl) (hpl : (backTo pos (starEach es X.env)).any (·.1) = false := by rfl) :
    AE X S0 (.Call (.Name "isinstance" p) (e :: es) [] pos) (aCa fIsi fs) := ae_cb call_isi caA_isi hg hm (by decide +kernel) ha (by decide) (by decide) he hpl
end
end AL
set_option maxHeartbeats 1000000
namespace AL
open PySem L2 Evl
section
variable {X : Cx} {S0 : Hp} {a b c e o : Expr} {es : List Expr} {fa fb fc fo : Ab} {ft fu : AbT} {fs fr : AbA} {pos apos : Pos} {K : PySem.W.Frag}
def fNeg : D → Mu → PD → Prop := fun x m P => match x with
  | .int i => P (.int (-i)) m
  | _ => False
def aUn (f : D → Mu → PD → Prop) (fa : Ab) : Ab := fun g m P => fa g m fun d m1 => f d m1 P
theorem ae_neg (ha : AE X S0 a fa) : AE X S0 (.UnaryOp .USub a pos) (aUn fNeg fa) := by
  obtain ⟨t, p, s⟩ := ha.ex
  refine ⟨_, pe_un un_neg p, fun g m P h st H rp e0 en Q q => s g m _ h st H rp e0 en _ fun v H1 d m1 h1 p1 d1 => ?_⟩
  cases d <;> first | exact (show False from h1).elim | skip
  cases d1
  exact ⟨_, rfl, q _ H1 _ m1 h1 p1 rfl⟩
/-! ### text * number -/
def repS (z : Str) (n : Int) : Str := ⟨((List.replicate n.toNat z.cps.toList).flatten).toArray⟩
theorem fold_cps (xs : Array Nat) : ∀ (n : Nat) (acc : Array Nat), (List.replicate n xs).foldl (· ++ ·) acc = (acc.toList ++ (List.replicate n xs.toList).flatten).toArray
  | 0, acc => by simp
  | n + 1, acc => by
    rw [List.replicate_succ, List.foldl_cons, fold_cps xs n, List.replicate_succ]
    simp
theorem rep_flat (l : List Nat) : ∀ n : Nat, ((List.replicate n l).flatten).length = n * l.length
  | 0 => by simp
  | n + 1 => by rw [List.replicate_succ, List.flatten_cons, List.length_append, rep_flat l n, Nat.succ_mul, Nat.add_comm]
theorem repS_len (z : Str) (n : Int) : (repS z n).length = n.toNat * z.length := by
  show (((List.replicate n.toNat z.cps.toList).flatten).toArray).size = n.toNat * z.cps.size
  rw [List.size_toArray, rep_flat, Array.length_toList]
def rRepS : R2 := fun x y H Q => ∃ z n, x = .str z ∧ y = .int n ∧ -(2 ^ 62) < n ∧ n ≤ 1000 ∧ z.length ≤ 1000 ∧ Q (.str (repS z n)) H
theorem op_repS : OpR X (binaryOp .Mult) rRepS := by
  intro pins s st H x y v u Q I rx ry h
  obtain ⟨z, n, rfl, rfl, h1, h2, h3, q⟩ := h
  obtain ⟨t, rfl⟩ := rx
  obtain ⟨t2, rfl⟩ := ry
  have hlen : z.length = z.cps.size := rfl
  refine PySem.P.mul_str ?_ ?_ ?_ ?_
  · rw [decide_eq_false (by omega), decide_eq_false (by omega)]
    rfl
  · intro hn _
    have hn : 1 ≤ n := by omega
    have h4 : (1000 : Int) ≤ (2 ^ 63 - 1) / n := by
      rw [Int.le_ediv_iff_mul_le (by omega)]
      omega
    omega
  · intro hn _
    have hm : z.length * n.toNat ≤ 1000 * 1000 := Nat.mul_le_mul h3 (by omega)
    unfold Builtin.Str.tooLong
    exact decide_eq_false (Nat.not_lt.mpr (Nat.le_trans hm (by decide)))
  · by_cases hn : n < 1
    · rw [if_pos hn]
      have e : repS z n = Str.empty := by
        unfold repS
        rw [show n.toNat = 0 by omega]
        rfl
      rw [e] at q
      exact ⟨by decide, .str Str.empty, H, I.tok _, ⟨_, rfl⟩, q⟩
    · rw [if_neg hn]
      by_cases h5 : (n == 1 || z.length == 0) = true
      · rw [if_pos h5]
        have e : repS z n = z := by
          unfold repS
          rcases Bool.or_eq_true_iff.mp h5 with h6 | h6
          · have h6 : n = 1 := by simpa using h6
            subst h6
            simp
          · have h6 : z.cps = #[] := by simpa [hlen] using h6
            rw [h6]
            have : ∀ k : Nat, (List.replicate k ([] : List Nat)).flatten = [] := fun k => by
              induction k with
              | zero => rfl
              | succ k ih => rw [List.replicate_succ, List.flatten_cons, ih, List.append_nil]
            rw [show (#[] : Array Nat).toList = [] from rfl, this]
            cases z
            simp only [Str.mk.injEq]
            exact h6.symm
        rw [e] at q
        exact ⟨.str z, H, I, ⟨_, rfl⟩, q⟩
      · rw [if_neg h5]
        have e : (⟨(List.replicate n.toNat z.cps).foldl (· ++ ·) #[]⟩ : Str) = repS z n := by
          rw [fold_cps]
          rfl
        rw [e]
        refine ⟨?_, .str _, H, I.tok _, ⟨_, rfl⟩, q⟩
        rw [repS_len]
        exact Nat.le_trans (Nat.mul_le_mul (by omega : n.toNat ≤ 1000) h3) (by decide)
def fRepS : D → D → Mu → PD → Prop := fun x y m P => match x, y with
  | .str z, .int n => (-1000 ≤ n ∧ n ≤ 1000 ∧ z.length ≤ 1000) ∧ P (.str (repS z n)) m
  | _, _ => False
theorem opA_repS : OpA K rRepS fRepS := fun x y m P h v w H rp d1 d2 Q q => by
  cases x <;> cases y <;> first | exact (show False from h).elim | skip
  rename_i z n
  cases d1
  cases d2
  have h' : (-1000 ≤ n ∧ n ≤ 1000 ∧ z.length ≤ 1000) ∧ P (.str (repS z n)) m := h
  exact ⟨z, n, rfl, rfl, by omega, h'.1.2.1, h'.1.2.2, q _ H _ m h'.2 (Po.refl rp) rfl⟩
theorem ae_repS (ha : AE X S0 a fa) (hb : AE X S0 b fb) : AE X S0 (.BinOp a .Mult b pos) (aOp fRepS fa fb) := ae_op op_repS opA_repS ha hb
/-! ### methods -/
/-- xs.append(e), xs a list that may change -/
def fApp : D → List D → Mu → PD → Prop := fun x ys m P => match x, ys with
  | .box p, [d] => match m p with
    | some (.lst ds) => ds.length < 100000 ∧ P .non (mset m p (.lst (ds ++ [d])))
    | _ => False
  | _, _ => False
def fPop : D → List D → Mu → PD → Prop := fun x ys m P => match x, ys with
  | .box p, [] => match m p with
    | some (.lst ds) => match ds[ds.length - 1]? with
      | some d => P d (mset m p (.lst ds.dropLast))
      | none => False
    | _ => False
  | _, _ => False
def aM (f : D → List D → Mu → PD → Prop) (fo : Ab) (fs : AbA) : Ab := fun g m P => fo g m fun x m1 => fs g m1 fun ys m2 => f x ys m2 P
/-- what a list method's receiver must be, ahead of the arguments: the arguments leave lists lists -/
theorem box_den {m : Mu} {H : Hp} {p : Addr} {ds : List D} (rp : Rep K H m) (h : m p = some (.lst ds)) : ∃ vs, H p = some (.lst vs) ∧ DenL K (R m H) ds vs := rp p _ h
def isL (m : Mu) : D → Prop
  | .box p => match m p with
    | some (.lst _) => True
    | _ => False
  | _ => False
theorem isL_ty {m : Mu} {H : Hp} {d : D} {v : V} (rp : Rep K H m) (h : Den K (R m H) d v) (l : isL m d) : tyV K "list" v H := by
  cases d <;> first | exact (show False from l).elim | skip
  rename_i p
  have l' : (match m p with
    | some (.lst _) => True
    | _ => False) := l
  cases e : m p with
  | none =>
    rw [e] at l'
    exact l'.elim
  | some o =>
    rw [e] at l'
    cases o with
    | ins C dx fs => exact l'.elim
    | dic mk kvs => exact l'.elim
    | lst ds =>
      obtain ⟨vs, h1, _⟩ := rp p _ e
      cases h
      exact .inl ⟨rfl, vs, sq_of h1⟩
def aML (f : D → List D → Mu → PD → Prop) (fo : Ab) (fs : AbA) : Ab := fun g m P => fo g m fun x m1 => isL m1 x ∧ fs g m1 fun ys m2 => f x ys m2 P
theorem app_ok {x : D} {ys : List D} {m : Mu} {P : PD} (h : fApp x ys m P) {v : V} {vs : List V} {H : Hp} (rp : Rep K H m) (d1 : Den K (R m H) x v) (d2 : DenL K (R m H) ys vs) {Q : VK} (q : ∀ z H' d m', P d m' → Po K m H m' H' → Den K (R m' H') d z → Q z H') : rAppend v vs H Q := by
  match x, ys, h with
  | .box p, [d], h =>
    have h : (match m p with
      | some (.lst ds) => ds.length < 100000 ∧ P .non (mset m p (.lst (ds ++ [d])))
      | _ => False) := h
    cases e : m p with
    | none =>
      rw [e] at h
      exact h.elim
    | some o =>
      rw [e] at h
      cases o with
      | ins C dx fs => exact h.elim
      | dic mk kvs => exact h.elim
      | lst ds =>
        obtain ⟨us, h1, h2⟩ := rp p _ e
        obtain ⟨w, rfl, dw⟩ := den1 d2
        cases d1
        refine ⟨p, us, w, rfl, rfl, h1, sz_lt (by rw [h2.len]; exact h.1), ?_⟩
        exact q _ _ _ _ h.2 (Po.setL rp e (h2.app (DenL.one dw))) rfl
theorem pop_ok {x : D} {m : Mu} {P : PD} (h : fPop x [] m P) {v : V} {H : Hp} (rp : Rep K H m) (d1 : Den K (R m H) x v) {Q : VK} (q : ∀ z H' d m', P d m' → Po K m H m' H' → Den K (R m' H') d z → Q z H') : rPop v [] H Q := by
  match x, h with
  | .box p, h =>
    have h : (match m p with
      | some (.lst ds) => (match ds[ds.length - 1]? with
        | some d => P d (mset m p (.lst ds.dropLast))
        | none => False)
      | _ => False) := h
    cases e : m p with
    | none =>
      rw [e] at h
      exact h.elim
    | some o =>
      rw [e] at h
      cases o with
      | ins C dx fs => exact h.elim
      | dic mk kvs => exact h.elim
      | lst ds =>
        obtain ⟨us, h1, h2⟩ := rp p _ e
        have h : (match ds[ds.length - 1]? with
          | some d => P d (mset m p (.lst ds.dropLast))
          | none => False) := h
        cases e2 : ds[ds.length - 1]? with
        | none =>
          rw [e2] at h
          exact h.elim
        | some d =>
          rw [e2] at h
          obtain ⟨w, hw, dw⟩ := h2.get e2
          cases d1
          refine ⟨p, us, w, rfl, rfl, h1, by rw [h2.len]; exact hw, ?_⟩
          have po := Po.setL rp e h2.dropLast
          exact q _ _ _ _ h po (Den.mono po.2 _ _ dw)
theorem ae_app (ho : AE X S0 o fo) (ha : AA X S0 (e :: es) fs) (hbase : attributeBase o "append" X.env (eval o X.env) = eval o X.env := by rfl)
    (hfew : ((backTo pos (starEach (e :: es) X.env)).all (fun x => !x.1) && (backToKw pos (keywordEach [] X.env)).all (fun x => x.1.isSome)
      && decide ((e :: es).length + ([] : List Keyword).length + (if ([] : List Keyword).isEmpty then 0 else 1) < 30)) = true := by rfl)
    (hline : (apos.endLine == pos.line) = true := by rfl) (hs : starEach (e :: es) X.env = (false, eval e X.env) :: starEach es X.env := by rfl) (hplain : (backTo pos (starEach es X.env)).any (·.1) = false := by rfl) :
    AE X S0 (.Call (.Attribute o "append" apos) (e :: es) [] pos) (aML fApp fo fs) := by
  obtain ⟨to, po, so⟩ := ho.ex
  obtain ⟨ta, pa, sa⟩ := ha.ex
  refine ⟨_, pe_bm PySem.F.plainAttrs_list PySem.F.slot_list_append PySem.F.type_list_append mt_append po pa hbase hfew hline hs hplain, fun g m P h st H rp e0 en Q q => ?_⟩
  refine so g m _ h st H rp e0 en _ fun v H1 d m1 h1 p1 d1 => ⟨isL_ty p1.1 d1 h1.1, ?_⟩
  refine sa g m1 _ h1.2 st H1 p1.1 (e0.trans p1.2) (en.mono p1.2) _ fun vs H2 ds m2 h2 p2 d2 => ?_
  exact app_ok h2 p2.1 (Den.mono p2.2 _ _ d1) d2 fun z H3 d3 m3 h3 p3 d3' => q z H3 d3 m3 h3 (p1.trans (p2.trans p3)) d3'
theorem ae_pop (ho : AE X S0 o fo) (hbase : attributeBase o "pop" X.env (eval o X.env) = eval o X.env := by rfl) (hline : (apos.endLine == pos.line) = true := by rfl) :
    AE X S0 (.Call (.Attribute o "pop" apos) [] [] pos) (aML fPop fo aNil) := by
  obtain ⟨to, po, so⟩ := ho.ex
  refine ⟨_, pe_bm0 PySem.F.plainAttrs_list PySem.F.slot_list_pop PySem.F.type_list_pop mt_pop po hbase hline, fun g m P h st H rp e0 en Q q => ?_⟩
  refine so g m _ h st H rp e0 en _ fun v H1 d m1 h1 p1 d1 => ⟨isL_ty p1.1 d1 h1.1, ?_⟩
  exact pop_ok h1.2 p1.1 d1 fun z H3 d3 m3 h3 p3 d3' => q z H3 d3 m3 h3 (p1.trans p3) d3'
/-- sep.join(xs) -/
def strOf : D → Option Str
  | .str z => some z
  | _ => none
def strsOf : List D → Option (List Str)
  | [] => some []
  | d :: r => match strOf d with
    | some z => match strsOf r with
      | some zs => some (z :: zs)
      | none => none
    | none => none
def fJoin : D → D → Mu → PD → Prop := fun x y m P => match x, seqOf m y with
  | .str a, some ds => match strsOf ds with
    | some ys => ((ys.map (·.length)).sum + ys.length * a.length ≤ 1000000) ∧ P (.str (Txt.join a ys)) m
    | none => False
  | _, _ => False
theorem strOf_den {S : Hp} {d : D} {v : V} {z : Str} (h : Den K S d v) (e : strOf d = some z) : v = .str z := by
  cases d with
  | str y =>
    cases e
    exact h
  | _ => cases e
theorem strsOf_den {S : Hp} {ds : List D} : ∀ {vs : List V} {ys : List Str}, DenL K S ds vs → strsOf ds = some ys → vs = ys.map V.str := by
  induction ds with
  | nil =>
    intro vs ys h e
    have e : some [] = some ys := e
    rw [← Option.some.inj e]
    exact h
  | cons d r ih =>
    intro vs ys h e
    obtain ⟨v, w, h1, h2, h3⟩ := h
    have e : (match strOf d with
      | some z => (match strsOf r with
        | some zs => some (z :: zs)
        | none => none)
      | none => none) = some ys := e
    cases q : strOf d with
    | none =>
      rw [q] at e
      cases e
    | some z =>
      rw [q] at e
      have e : (match strsOf r with
        | some zs => some (z :: zs)
        | none => none) = some ys := e
      cases q2 : strsOf r with
      | none =>
        rw [q2] at e
        cases e
      | some zs =>
        rw [q2] at e
        have e : some (z :: zs) = some ys := e
        rw [← Option.some.inj e, h1, List.map_cons, ih h3 q2, strOf_den h2 q]
def aJoin (fo fa : Ab) : Ab := fun g m P => fo g m fun x m1 => (∃ z, x = .str z) ∧ fa g m1 fun y m2 => fJoin x y m2 P
theorem ae_join (ho : AE X S0 o fo) (ha : AE X S0 e fa) (hs : starEach [e] X.env = [(false, eval e X.env)] := by rfl) (hbase : attributeBase o "join" X.env (eval o X.env) = eval o X.env := by rfl) (hline : (apos.endLine == pos.line) = true := by rfl) :
    AE X S0 (.Call (.Attribute o "join" apos) [e] [] pos) (aJoin fo fa) := by
  obtain ⟨to, po, so⟩ := ho.ex
  obtain ⟨ta, pa, sa⟩ := ha.ex
  refine ⟨_, pe_join po pa hs hbase hline, fun g m P h st H rp e0 en Q q => ?_⟩
  refine so g m _ h st H rp e0 en _ fun v H1 d m1 h1 p1 d1 => ?_
  obtain ⟨⟨z, rfl⟩, h1⟩ := h1
  cases d1
  refine ⟨⟨z, rfl⟩, sa g m1 _ h1 st H1 p1.1 (e0.trans p1.2) (en.mono p1.2) _ fun w H2 d2 m2 h2 p2 d2' => ?_⟩
  have h2 : (match seqOf m2 d2 with
    | some ds => (match strsOf ds with
      | some ys => ((ys.map (·.length)).sum + ys.length * z.length ≤ 1000000) ∧ P (.str (Txt.join z ys)) m2
      | none => False)
    | none => False) := by
    have h3 : fJoin (.str z) d2 m2 P := h2
    unfold fJoin at h3
    cases e : seqOf m2 d2 with
    | none =>
      rw [e] at h3
      exact h3
    | some ds =>
      rw [e] at h3
      exact h3
  cases e : seqOf m2 d2 with
  | none =>
    rw [e] at h2
    exact h2.elim
  | some ds =>
    rw [e] at h2
    have h2 : (match strsOf ds with
      | some ys => ((ys.map (·.length)).sum + ys.length * z.length ≤ 1000000) ∧ P (.str (Txt.join z ys)) m2
      | none => False) := h2
    cases e3 : strsOf ds with
    | none =>
      rw [e3] at h2
      exact h2.elim
    | some ys =>
      rw [e3] at h2
      obtain ⟨p, vs, rfl, hs', hd⟩ := seq_den p2.1 d2' e
      have ev := strsOf_den hd e3
      subst ev
      refine ⟨z, p, ys, rfl, rfl, hs', Nat.le_trans h2.1 (by decide), ?_⟩
      exact q _ H2 _ m2 h2.2 (p1.trans p2) rfl
end
end AL
set_option maxHeartbeats 1000000
namespace AL
open PySem L2 Evl
structure AEn where
  nx : Sl → Mu → Prop
  rt : D → Mu → Prop
  bk : Sl → Mu → Prop := fun _ _ => False
  ct : Sl → Mu → Prop := fun _ _ => False
abbrev AbS := AEn → Sl → Mu → Prop
structure EndOk (K : PySem.W.Frag) (S1 : Hp) (E : AEn) (D : Ends) : Prop where
  nx : ∀ g m st H, E.nx g m → Rep K H m → Ex S1 (R m H) → Env K (R m H) g st → D.nx st H
  rt : ∀ d m v H, E.rt d m → Rep K H m → Ex S1 (R m H) → Den K (R m H) d v → D.rt v H
  bk : ∀ g m st H, E.bk g m → Rep K H m → Ex S1 (R m H) → Env K (R m H) g st → D.bk st H
  ct : ∀ g m st H, E.ct g m → Rep K H m → Ex S1 (R m H) → Env K (R m H) g st → D.ct st H
def WS (K : PySem.W.Frag) (S0 : Hp) (t : TS) (E : AEn) (g : Sl) (m : Mu) : Prop :=
  ∀ st H S1, Rep K H m → Ex S0 S1 → Ex S1 (R m H) → Env K (R m H) g st → ∀ D : Ends, EndOk K S1 E D → t D st H
structure AS (X : Cx) (S0 : Hp) (st : Stmt) (s : AbS) : Prop where
  ex : ∃ t, PS X st t ∧ ∀ E g m, s E g m → WS X.K S0 t E g m
structure AB (X : Cx) (S0 : Hp) (st : List Stmt) (s : AbS) : Prop where
  ex : ∃ t, PSs X st t ∧ ∀ E g m, s E g m → WS X.K S0 t E g m
section
variable {X : Cx} {S0 : Hp} {a b c e o : Expr} {es : List Expr} {fa fb fc fo fe fi : Ab} {ft fu : AbT} {fs fr : AbA} {pos : Pos} {K : PySem.W.Frag} {st : Stmt} {rest body : List Stmt} {s u : AbS}
theorem EndOk.mono {S1 S2 : Hp} {E : AEn} {D : Ends} (h : EndOk K S1 E D) (e : Ex S1 S2) : EndOk K S2 E D :=
  ⟨fun g m st H a b c d => h.nx g m st H a b (e.trans c) d, fun g m st H a b c d => h.rt g m st H a b (e.trans c) d, fun g m st H a b c d => h.bk g m st H a b (e.trans c) d, fun g m st H a b c d => h.ct g m st H a b (e.trans c) d⟩
def aNext : AbS := fun E g m => E.nx g m
def aSeq (s u : AbS) : AbS := fun E g m => s { E with nx := fun g' m' => u E g' m' } g m
theorem ab_nil : AB X S0 [] aNext := ⟨_, pss_nil, fun E g m h st H S1 rp e0 e1 en D ok => ok.nx g m st H h rp e1 en⟩
theorem ab_one (h : AS X S0 st s) : AB X S0 [st] s := by
  obtain ⟨t, p, q⟩ := h.ex
  exact ⟨t, pss_one p, q⟩
theorem ab_cons (h : AS X S0 st s) (r : AB X S0 rest u) : AB X S0 (st :: rest) (aSeq s u) := by
  obtain ⟨t, p, q⟩ := h.ex
  obtain ⟨t2, p2, q2⟩ := r.ex
  refine ⟨_, pss_cons p p2, fun E g m hs st H S1 rp e0 e1 en D ok => ?_⟩
  refine q _ g m hs st H S1 rp e0 e1 en _ ⟨fun g' m' st' H' hu rp' e1' en' => ?_, ok.rt, ok.bk, ok.ct⟩
  exact q2 E g' m' hu st' H' S1 rp' e0 e1' en' D ok
theorem as_pass : AS X S0 (.Pass pos) aNext := ⟨_, ps_pass, fun E g m h st H S1 rp e0 e1 en D ok => ok.nx g m st H h rp e1 en⟩
def aCont : AbS := fun E g m => E.ct g m
def aBrk : AbS := fun E g m => E.bk g m
theorem as_cont : AS X S0 (.Continue pos) aCont := ⟨_, ps_continue, fun E g m h st H S1 rp e0 e1 en D ok => ok.ct g m st H h rp e1 en⟩
theorem as_brk : AS X S0 (.Break pos) aBrk := ⟨_, ps_break, fun E g m h st H S1 rp e0 e1 en D ok => ok.bk g m st H h rp e1 en⟩
def aSet (i : Nat) (fa : Ab) : AbS := fun E g m => fa g m fun d m1 => E.nx (put g i (some d)) m1
theorem as_set (i : Nat) {x : Str} {p : Pos} (he : AE X S0 e fe) (hN : X.N.Nodup) (hi : X.N[i]? = some x := by rfl) (hx : Loc X.env.scope x := by first | exact .inl rfl | exact .inr rfl)
    (hs : swapsWith e (some (.Name x p)) pos.line X.env = pure false := by rfl) (hf : X.fn x = true ∨ X.env.scope.names.lookup x = some .local := by first | exact .inl rfl | exact .inr rfl | assumption) : AS X S0 (.Assign [.Name x p] e pos) (aSet i fe) := by
  obtain ⟨t, pt, q⟩ := he.ex
  refine ⟨_, ps_set hN hi hx pt hs hf, fun E g m h st H S1 rp e0 e1 en D ok => ?_⟩
  exact q g m _ h st H rp (e0.trans e1) en _ fun v H1 d m1 h1 p1 d1 => ok.nx _ m1 _ H1 h1 p1.1 (e1.trans p1.2) ((en.mono p1.2).put d1)
def aDo (fa : Ab) : AbS := fun E g m => fa g m fun _ m1 => E.nx g m1
theorem as_expr (he : AE X S0 e fe) (hs : swapsWith e none pos.line X.env = pure false := by rfl) : AS X S0 (.Expr e pos) (aDo fe) := by
  obtain ⟨t, pt, q⟩ := he.ex
  refine ⟨_, ps_expr pt hs, fun E g m h st H S1 rp e0 e1 en D ok => ?_⟩
  exact q g m _ h st H rp (e0.trans e1) en _ fun v H1 d m1 h1 p1 d1 => ok.nx _ m1 _ H1 h1 p1.1 (e1.trans p1.2) (en.mono p1.2)
def aRet (fa : Ab) : AbS := fun E g m => fa g m E.rt
theorem as_ret (he : AE X S0 e fe) : AS X S0 (.Return (some e) pos) (aRet fe) := by
  obtain ⟨t, pt, q⟩ := he.ex
  refine ⟨_, ps_ret pt, fun E g m h st H S1 rp e0 e1 en D ok => ?_⟩
  exact q g m _ h st H rp (e0.trans e1) en _ fun v H1 d m1 h1 p1 d1 => ok.rt d m1 v H1 h1 p1.1 (e1.trans p1.2) d1
def aRetN : AbS := fun E g m => E.rt .non m
theorem as_retN : AS X S0 (.Return none pos) aRetN := ⟨_, ps_retN, fun E g m h st H S1 rp e0 e1 en D ok => ok.rt .non m .non H h rp e1 rfl⟩
def aIf (ft : AbT) (s u : AbS) : AbS := fun E g m => ft g m fun b m1 => if b = true then s E g m1 else u E g m1
theorem as_if {l1 l2 : List Stmt} (hc : AT X S0 c ft) (h1 : AB X S0 l1 s) (h2 : AB X S0 l2 u) : AS X S0 (.If c l1 l2 pos) (aIf ft s u) := by
  obtain ⟨t, pt, q⟩ := hc.ex
  obtain ⟨t1, p1, q1⟩ := h1.ex
  obtain ⟨t2, p2, q2⟩ := h2.ex
  refine ⟨_, ps_if pt p1 p2, fun E g m h st H S1 rp e0 e1 en D ok => ?_⟩
  refine q g m _ h st H rp (e0.trans e1) en _ fun b H1 m1 hb po => ?_
  cases b with
  | true =>
    rw [if_pos rfl] at hb ⊢
    exact q1 E g m1 hb st H1 S1 po.1 e0 (e1.trans po.2) (en.mono po.2) D ok
  | false =>
    rw [if_neg (by decide)] at hb ⊢
    exact q2 E g m1 hb st H1 S1 po.1 e0 (e1.trans po.2) (en.mono po.2) D ok
/-- while, by a word and a number that falls -/
def aWhile (ft : AbT) (s : AbS) : AbS := fun E g m => ∃ W : Nat → Sl → Mu → Prop, (∃ n, W n g m) ∧ ∀ n g' m', W n g' m' → ft g' m' fun b m1 =>
  if b = true then s { nx := fun g2 m2 => ∃ n', n' < n ∧ W n' g2 m2, rt := E.rt, bk := E.nx, ct := fun g2 m2 => ∃ n', n' < n ∧ W n' g2 m2 } g' m1 else E.nx g' m1
theorem as_while (hp : PassesOwn (model X.prog X.w) X.A X.env X.xe) (hc : AT X S0 c ft) (hb : AB X S0 body s) : AS X S0 (.While c body [] pos) (aWhile ft s) := by
  obtain ⟨t, pt, q⟩ := hc.ex
  obtain ⟨t1, p1, q1⟩ := hb.ex
  refine ⟨_, ps_while hp pt p1, fun E g m h st H S1 rp e0 e1 en D ok => ?_⟩
  obtain ⟨W, ⟨n0, w0⟩, turn⟩ := h
  refine ⟨fun n st' H' => ∃ g' m', W n g' m' ∧ Rep X.K H' m' ∧ Ex S1 (R m' H') ∧ Env X.K (R m' H') g' st', ⟨n0, g, m, w0, rp, e1, en⟩, fun n st' H' hw => ?_⟩
  obtain ⟨g', m', hw, rp', e1', en'⟩ := hw
  refine q g' m' _ (turn n g' m' hw) st' H' rp' (e0.trans e1') en' _ fun b H1 m1 hb po => ?_
  cases b with
  | true =>
    rw [if_pos rfl] at hb
    refine ⟨fun st2 H2 => ∃ n', n' < n ∧ ∃ g2 m2, W n' g2 m2 ∧ Rep X.K H2 m2 ∧ Ex S1 (R m2 H2) ∧ Env X.K (R m2 H2) g2 st2, fun st2 H2 z => z, ?_⟩
    refine q1 _ g' m1 hb st' H1 S1 po.1 e0 (e1'.trans po.2) (en'.mono po.2) _ ⟨fun g2 m2 st2 H2 ⟨n', hn, hw2⟩ r2 x2 v2 => ⟨n', hn, g2, m2, hw2, r2, x2, v2⟩, ok.rt, fun g2 m2 st2 H2 z r2 x2 v2 => ok.nx g2 m2 st2 H2 z r2 x2 v2, fun g2 m2 st2 H2 ⟨n', hn, hw2⟩ r2 x2 v2 => ⟨n', hn, g2, m2, hw2, r2, x2, v2⟩⟩
  | false =>
    rw [if_neg (by decide)] at hb
    exact ok.nx g' m1 st' H1 hb po.1 (e1'.trans po.2) (en'.mono po.2)
/-! ### targets -/
abbrev AbG := D → Sl → Mu → (Sl → Mu → Prop) → Prop
structure AG (X : Cx) (S0 : Hp) (tg : Expr) (k : AbG) : Prop where
  ex : ∃ t, PG X tg t ∧ ∀ d g m P, k d g m P → ∀ v st H S1, Rep X.K H m → Ex S0 S1 → Ex S1 (R m H) → Env X.K (R m H) g st → Den X.K (R m H) d v → ∀ Q : St → Hp → Prop, (∀ g' m' st' H', P g' m' → Rep X.K H' m' → Ex S1 (R m' H') → Env X.K (R m' H') g' st' → Q st' H') → t v st H Q
structure AGs (X : Cx) (S0 : Hp) (tg : List Expr) (k : List D → Sl → Mu → (Sl → Mu → Prop) → Prop) : Prop where
  ex : ∃ t, PGs X tg t ∧ ∀ ds g m P, k ds g m P → ∀ vs st H S1, Rep X.K H m → Ex S0 S1 → Ex S1 (R m H) → Env X.K (R m H) g st → DenL X.K (R m H) ds vs → ∀ Q : St → Hp → Prop, (∀ g' m' st' H', P g' m' → Rep X.K H' m' → Ex S1 (R m' H') → Env X.K (R m' H') g' st' → Q st' H') → t vs st H Q
def kName (i : Nat) : AbG := fun d g m P => P (put g i (some d)) m
theorem ag_name (i : Nat) {x : Str} (hN : X.N.Nodup) (hi : X.N[i]? = some x := by rfl) (hx : Loc X.env.scope x := by first | exact .inl rfl | exact .inr rfl) (hf : X.fn x = true ∨ X.env.scope.names.lookup x = some .local := by first | exact .inl rfl | exact .inr rfl | assumption) :
    AG X S0 (.Name x pos) (kName i) := ⟨_, pg_name hN hi hx hf, fun d g m P h v st H S1 rp e0 e1 en dv Q q => q _ m _ H h rp e1 (en.put dv)⟩
def kNil : List D → Sl → Mu → (Sl → Mu → Prop) → Prop := fun ds g m P => ds = [] ∧ P g m
def kCons (k : AbG) (r : List D → Sl → Mu → (Sl → Mu → Prop) → Prop) : List D → Sl → Mu → (Sl → Mu → Prop) → Prop := fun ds g m P => match ds with
  | d :: rs => k d g m fun g' m' => r rs g' m' P
  | [] => False
theorem ags_nil : AGs X S0 [] kNil := ⟨_, pgs_nil, fun ds g m P h vs st H S1 rp e0 e1 en dv Q q => by
  obtain ⟨rfl, h⟩ := h
  exact ⟨dv, q g m st H h rp e1 en⟩⟩
theorem ags_cons {kk : AbG} {kr : List D → Sl → Mu → (Sl → Mu → Prop) → Prop} (h1 : AG X S0 e kk) (h2 : AGs X S0 es kr) (hs : (assignEach (e :: es) X.env).map (·.2) = assign e X.env :: (assignEach es X.env).map (·.2) := by rfl) : AGs X S0 (e :: es) (kCons kk kr) := by
  obtain ⟨t1, p1, q1⟩ := h1.ex
  obtain ⟨t2, p2, q2⟩ := h2.ex
  refine ⟨_, pgs_cons p1 p2 hs, fun ds g m P h vs st H S1 rp e0 e1 en dv Q q => ?_⟩
  cases ds with
  | nil => exact (show False from h).elim
  | cons d rs =>
    obtain ⟨v, ws, rfl, dv1, dv2⟩ := dv
    refine ⟨v, ws, rfl, ?_⟩
    refine q1 d g m _ h v st H (R m H) rp (e0.trans e1) (Ex.refl _) en dv1 _ fun g' m' st' H' h' rp' e' en' => ?_
    exact q2 rs g' m' P h' ws st' H' S1 rp' e0 (e1.trans e') en' (DenL.mono e' _ _ dv2) Q q
def kTup (n : Nat) (kr : List D → Sl → Mu → (Sl → Mu → Prop) → Prop) : AbG := fun d g m P => match seqOf m d with
  | some ds => ds.length = n ∧ kr ds g m P
  | none => False
theorem ag_tup {k n : Nat} {kr : List D → Sl → Mu → (Sl → Mu → Prop) → Prop} (hc : X.calm = true) (h : AGs X S0 es kr)
    (hn : (assignEach es X.env).length = n := by rfl) (hst : (assignEach es X.env).findIdx? (·.1) = none := by rfl) : AG X S0 (.Tuple es k pos) (kTup n kr) := by
  obtain ⟨t, p, q⟩ := h.ex
  have p1 : PG X (.Tuple es k pos) (gTup X.K n t) := pg_tup hc p hn hst
  have p2 : PG X (.Tuple es k pos) (gLst X.K n t) := pg_lst hc p hn hst
  refine ⟨fun v st H Q => gTup X.K n t v st H Q ∨ gLst X.K n t v st H Q, ⟨fun pins s st H v u Q I r hw => hw.elim (fun z => p1.run pins s st H v u Q I r z) (fun z => p2.run pins s st H v u Q I r z)⟩, fun d g m P h v st H S1 rp e0 e1 en dv Q q' => ?_⟩
  have h' : (match seqOf m d with
    | some ds => ds.length = n ∧ kr ds g m P
    | none => False) := h
  cases e : seqOf m d with
  | none =>
    rw [e] at h'
    exact h'.elim
  | some ds =>
    rw [e] at h'
    obtain ⟨p3, vs, rfl, hs, hd⟩ := seq_den rp dv e
    rcases hs with hs | hs
    · exact .inr ⟨p3, vs, rfl, hs, hd.len.trans h'.1, q ds g m P h'.2 vs st H S1 rp e0 e1 en hd Q q'⟩
    · exact .inl ⟨p3, vs, rfl, hs, hd.len.trans h'.1, q ds g m P h'.2 vs st H S1 rp e0 e1 en hd Q q'⟩
def aAsg (fa : Ab) (k : AbG) : AbS := fun E g m => fa g m fun d m1 => k d g m1 E.nx
theorem as_asg {tg : Expr} {k : AbG} (he : AE X S0 e fe) (hg : AG X S0 tg k) (hs : swapsWithSole [tg] e pos.line X.env = pure false := by rfl) (hw : swappedStores [tg] e X.env = pure none := by rfl)
    (h1 : (assignEach [tg] X.env).map (·.2) = [assign tg X.env] := by rfl) : AS X S0 (.Assign [tg] e pos) (aAsg fe k) := by
  obtain ⟨t, pt, q⟩ := he.ex
  obtain ⟨tg', pg, qg⟩ := hg.ex
  refine ⟨_, ps_asg pt pg hs hw h1, fun E g m h st H S1 rp e0 e1 en D ok => ?_⟩
  refine q g m _ h st H rp (e0.trans e1) en _ fun v H1 d m1 h1 p1 d1 => ?_
  exact qg d g m1 _ h1 v st H1 S1 p1.1 e0 (e1.trans p1.2) (en.mono p1.2) d1 _ fun g' m' st' H' h' rp' e' en' => ok.nx g' m' st' H' h' rp' e' en'
/-- xs[i] = e, xs a list that may change -/
def fSetIx (x i : D) (d : D) (m : Mu) (P : Mu → Prop) : Prop := match x, i with
  | .box p, .int k => match m p with
    | some (.lst ds) => match ixN ds.length k with
      | some j => P (mset m p (.lst (ds.set j d)))
      | none => False
    | _ => False
  | _, _ => False
theorem setIx_ok {x i d : D} {m : Mu} {P : Mu → Prop} (h : fSetIx x i d m P) {v w z : V} {H : Hp} (rp : Rep K H m) (d1 : Den K (R m H) x v) (d2 : Den K (R m H) i w) (d3 : Den K (R m H) d z) {Q : Hp → Prop} (q : ∀ H' m', P m' → Po K m H m' H' → Q H') : rSetL v w z H Q := by
  match x, i, h with
  | .box p, .int k, h =>
    have h : (match m p with
      | some (.lst ds) => (match ixN ds.length k with
        | some j => P (mset m p (.lst (ds.set j d)))
        | none => False)
      | _ => False) := h
    cases e : m p with
    | none =>
      rw [e] at h
      exact h.elim
    | some o =>
      rw [e] at h
      cases o with
      | ins C dx fs => exact h.elim
      | dic mk kvs => exact h.elim
      | lst ds =>
        have h : (match ixN ds.length k with
          | some j => P (mset m p (.lst (ds.set j d)))
          | none => False) := h
        cases e2 : ixN ds.length k with
        | none =>
          rw [e2] at h
          exact h.elim
        | some j =>
          rw [e2] at h
          obtain ⟨us, h1, h2⟩ := rp p _ e
          cases d1
          cases d2
          refine ⟨p, us, k, j, rfl, rfl, h1, by rw [h2.len]; exact e2, ?_⟩
          exact q _ _ h (Po.setL rp e (h2.set j d3))
def kSub (fo fi : Ab) : AbG := fun d g m P => fo g m fun x m1 => fi g m1 fun i m2 => fSetIx x i d m2 fun m3 => P g m3
theorem ag_sub {o i : Expr} {fo fi : Ab} (ho : AE X S0 o fo) (hi : AE X S0 i fi)
    (ha : ∀ v, assign (.Subscript o i pos) X.env v = (do
      let ov ← holding [v] (eval o X.env)
      let iv ← holding [v, ov] (eval i X.env)
      standAt pos
      holding [v, ov, iv] (setItem ov iv v)
      release [v, ov, iv] []) := by intro _; rfl) : AG X S0 (.Subscript o i pos) (kSub fo fi) := by
  obtain ⟨to, po, qo⟩ := ho.ex
  obtain ⟨ti, pi, qi⟩ := hi.ex
  refine ⟨_, pg_sub po pi set_list ha, fun d g m P h v st H S1 rp e0 e1 en dv Q q => ?_⟩
  refine qo g m _ h st H rp (e0.trans e1) en _ fun x H1 dx m1 h1 p1 d1 => ?_
  refine qi g m1 _ h1 st H1 p1.1 ((e0.trans e1).trans p1.2) (en.mono p1.2) _ fun y H2 dy m2 h2 p2 d2 => ?_
  have p12 := p1.trans p2
  refine setIx_ok h2 p2.1 (Den.mono p2.2 _ _ d1) d2 (Den.mono p12.2 _ _ dv) fun H3 m3 h3 p3 => ?_
  exact q g m3 st H3 h3 p3.1 (e1.trans (p12.trans p3).2) (en.mono (p12.trans p3).2)
/-- x += e, x -= e, of numbers -/
def aAug (i : Nat) (f : Int → Int → Int) (fa : Ab) : AbS := fun E g m => match nth g i with
  | some (.int x) => fa g m fun d m1 => match d with
    | .int y => E.nx (put g i (some (.int (f x y)))) m1
    | _ => False
  | _ => False
theorem as_aug (i : Nat) {x : Str} {op : Operator} {f : Int → Int → Int} {p' : Pos} (hp : PIp X op (ipI f)) (he : AE X S0 e fe) (hN : X.N.Nodup) (hi : X.N[i]? = some x := by rfl) (hx : Loc X.env.scope x := by first | exact .inl rfl | exact .inr rfl)
    (hf : X.fn x = true ∨ X.env.scope.names.lookup x = some .local := by first | exact .inl rfl | exact .inr rfl | assumption) : AS X S0 (.AugAssign (.Name x p') op e pos) (aAug i f fe) := by
  obtain ⟨t, pt, q⟩ := he.ex
  refine ⟨_, ps_aug hN hi hx pt hp hf, fun E g m h st H S1 rp e0 e1 en D ok => ?_⟩
  have h' : (match nth g i with
    | some (.int x) => fe g m fun d m1 => match d with
      | .int y => E.nx (put g i (some (.int (f x y)))) m1
      | _ => False
    | _ => False) := h
  split at h'
  · rename_i n hn
    obtain ⟨v, h1, h2⟩ := en.nth hn
    cases h2
    refine ⟨.int n, h1, q g m _ h' st H rp (e0.trans e1) en _ fun v H1 d m1 h3 p1 d1 => ?_⟩
    cases d <;> first | exact (show False from h3).elim | skip
    cases d1
    exact ⟨n, _, rfl, rfl, ok.nx _ m1 _ H1 h3 p1.1 (e1.trans p1.2) ((en.mono p1.2).put rfl)⟩
  · exact h'.elim
end
end AL
set_option maxHeartbeats 1000000
namespace AL
open PySem L2 Evl
section
variable {X : Cx} {S0 : Hp} {a b c e o : Expr} {es : List Expr} {fa fb fc fo fe fi : Ab} {ft fu : AbT} {fs fr : AbA} {pos : Pos} {K : PySem.W.Frag} {st : Stmt} {rest body : List Stmt} {s u : AbS}
/-! ### loops -/
/-- over a list or a tuple that stands still -/
def iSq (K : PySem.W.Frag) (tl : TE) : TI := fun st H R => tl st H fun x H1 => ∃ p, x = .ref p ∧ (((∃ xs, SqL K H1 p xs) ∧ R (Itl K p) H1) ∨ ((∃ xs, SqT K H1 p xs) ∧ R (Itt K p) H1))
theorem pi_sq {tg : Expr} {tl : TE} (h : PE X e tl) : PI X tg e (iSq X.K tl) := by
  constructor
  intro pn s0 st H W I0 hw
  apply thn (h.run pn s0 st H _ I0 hw)
  rintro u s1 ⟨x, G, I1, rel, p, ex, hq⟩
  cases ex
  cases rel
  have fr : ∀ b ∈ [s1.heap.objs.size], FpOk X pn G b := by
    intro b hb
    rw [List.mem_singleton.mp hb]
    exact I1.fpOk (Nat.le_refl _) (I1.hok.fresh (Nat.le_refl _))
  have kp : ∀ (n : Obj), L2.Inv X pn st G { s1 with heap := s1.heap.push n, toks := s1.toks } := fun n => I1.kept (t' := s1.toks) fun _ _ z => Heap.get?_push_of_some _ z
  rcases hq with ⟨⟨xs, hx⟩, hR⟩ | ⟨⟨xs, hx⟩, hR⟩
  · obtain ⟨vs, _, pl, _⟩ := I1.list hx
    apply wpAny_pyIter_list pl.isList
    exact ⟨s1.heap.objs.size, [s1.heap.objs.size], _, Itl X.K p, G, rfl, kp _, turn_list p _, ⟨_, Heap.get?_push_size _ rfl, rfl, rfl⟩, fr, hR⟩
  · obtain ⟨vs, _, pl, _⟩ := I1.tuple hx
    apply wpAny_pyIter_tuple (show s1.heap.IsTuple p vs.toArray from pl)
    exact ⟨s1.heap.objs.size, [s1.heap.objs.size], _, Itt X.K p, G, rfl, kp _, turn_tuple p _, ⟨_, Heap.get?_push_size _ rfl, rfl, rfl⟩, fr, hR⟩
def aFor (fa : Ab) (k : AbG) (s : AbS) : AbS := fun E g m => fa g m fun d m1 => ∃ ds, seqOf m1 d = some ds ∧ ∃ Pv : Nat → Sl → Mu → Prop, Pv 0 g m1 ∧ (∀ i g' m', i ≤ ds.length → Pv i g' m' → seqOf m' d = some ds) ∧
  (∀ i x g' m', ds[i]? = some x → Pv i g' m' → k x g' m' fun g2 m2 => s { nx := Pv (i + 1), rt := E.rt, bk := E.nx, ct := Pv (i + 1) } g2 m2) ∧ ∀ g' m', Pv ds.length g' m' → E.nx g' m'
/-- an evaluation, told with the very heap it ends at (the same value by both ways of reading it) -/
theorem den_seq {m : Mu} {H : Hp} {d : D} {v : V} {ds : List D} {p : Addr} (r : Rep K H m) (h : Den K (R m H) d v) (hv : v = .ref p) (e : seqOf m d = some ds) :
    ∃ vs, (SqL K H p vs ∨ SqT K H p vs) ∧ DenL K (R m H) ds vs := by
  obtain ⟨q, vs, h1, h2, h3⟩ := seq_den r h e
  rw [hv] at h1
  cases h1
  exact ⟨vs, h2, h3⟩
theorem Den.refd {S : Hp} {d : D} {m : Mu} {v : V} {ds : List D} (h : Den K S d v) (e : seqOf m d = some ds) : ∃ p, v = .ref p := by
  cases d <;> first | cases e | skip
  · exact ⟨_, h⟩
  · obtain ⟨p, _, h1, _⟩ := h
    exact ⟨p, h1⟩
  · obtain ⟨p, _, h1, _⟩ := h
    exact ⟨p, h1⟩
  · obtain ⟨p, h1, _⟩ := h
    exact ⟨p, h1⟩
/-- a list's or a tuple's kind does not change by its data -/
def isTup : D → Bool
  | .tup _ => true
  | _ => false
theorem seq_kind {m : Mu} {H : Hp} {d : D} {p : Addr} {ds : List D} (r : Rep K H m) (h : Den K (R m H) d (.ref p)) (e : seqOf m d = some ds) :
    ∃ vs, DenL K (R m H) ds vs ∧ (if isTup d = true then SqT K H p vs else SqL K H p vs) := by
  have up : Ex (R m H) H := fun a o q => (R_of q).2
  cases d with
  | tup es =>
    cases e
    obtain ⟨q, vs, h1, h2, h3⟩ := h
    cases h1
    exact ⟨vs, h3, ex_t up h2⟩
  | lst es =>
    cases e
    obtain ⟨q, vs, h1, h2, h3⟩ := h
    cases h1
    exact ⟨vs, h3, sq_of (R_of h2).2⟩
  | box q =>
    obtain ⟨a', vs, h1, h2, h3⟩ := lst_den r h (show lstOf m (.box q) = some ds from e)
    cases h1
    exact ⟨vs, h3, sq_of h2⟩
  | scr ns =>
    cases e
    obtain ⟨q, h1, h2⟩ := h
    cases h1
    exact ⟨_, DenL.ints ns, ex_l up h2⟩
  | _ => cases e
theorem as_for {tg : Expr} {k : AbG} (hp : PassesOwn (model X.prog X.w) X.A X.env X.xe) (hc : X.calm = true) (he : AE X S0 e fe) (hg : AG X S0 tg k) (hb : AB X S0 body s)
    (hs : ∀ x, foldedSetIterable e X.env x = pure x := by intro _; rfl) : AS X S0 (.For tg e body [] pos) (aFor fe k s) := by
  obtain ⟨te, pe, qe⟩ := he.ex
  obtain ⟨tk, pk, qk⟩ := hg.ex
  obtain ⟨tb, pb, qb⟩ := hb.ex
  refine ⟨_, ps_for hp hc (pi_sq (tg := tg) pe) pk pb hs, fun E g m h st H S1 rp e0 e1 en D ok => ?_⟩
  refine qe g m _ h st H rp (e0.trans e1) en _ fun v H1 d m1 h1 p1 d1 => ?_
  obtain ⟨ds, eds, Pv, hp0, hstay, hturn, hend⟩ := h1
  obtain ⟨p, rfl⟩ := d1.refd eds
  obtain ⟨vs0, dv0, k0⟩ := seq_kind p1.1 d1 eds
  have up : ∀ {m2 : Mu} {H2 : Hp}, Ex (R m1 H1) (R m2 H2) → Ex S1 (R m2 H2) := fun z => (e1.trans p1.2).trans z
  -- the state between two turns
  let Qv : Nat → L2.St → Hp → Prop := fun i st' H' => ∃ g' m', Pv i g' m' ∧ Rep X.K H' m' ∧ Ex (R m1 H1) (R m' H') ∧ Env X.K (R m' H') g' st'
  have q0 : Qv 0 st H1 := ⟨g, m1, hp0, p1.1, Ex.refl _, en.mono p1.2⟩
  have okm := ok.mono (e1.trans p1.2)
  have e01 : Ex S0 (R m1 H1) := (e0.trans e1).trans p1.2
  have here : ∀ i g' m' H', i ≤ ds.length → Pv i g' m' → Rep X.K H' m' → Ex (R m1 H1) (R m' H') → ∃ vs, DenL X.K (R m' H') ds vs ∧ (if isTup d = true then SqT X.K H' p vs else SqL X.K H' p vs) :=
    fun i g' m' H' hi hv r x => seq_kind r (Den.mono x _ _ d1) (hstay i g' m' hi hv)
  have turn : ∀ i st' H' g' m' y, ds[i]? = some y → Pv i g' m' → Rep X.K H' m' → Ex (R m1 H1) (R m' H') → Env X.K (R m' H') g' st' → ∀ x, Den X.K (R m' H') y x →
      tk x st' H' fun st2 H2 => tb { D with nx := Qv (i + 1), ct := Qv (i + 1), bk := D.nx } st2 H2 := by
    intro i st' H' g' m' y hy hv r x en' z dz
    refine qk y g' m' _ (hturn i y g' m' hy hv) z st' H' (R m1 H1) r e01 x en' dz _ fun g2 m2 st2 H2 h2 r2 x2 en2 => ?_
    exact qb _ g2 m2 h2 st2 H2 (R m1 H1) r2 e01 x2 en2 _ ⟨fun g3 m3 st3 H3 z3 r3 x3 v3 => ⟨g3, m3, z3, r3, x3, v3⟩, okm.rt, okm.nx, fun g3 m3 st3 H3 z3 r3 x3 v3 => ⟨g3, m3, z3, r3, x3, v3⟩⟩
  refine ⟨p, rfl, ?_⟩
  cases kd : isTup d with
  | false =>
    rw [kd] at k0
    rw [if_neg (by decide)] at k0
    refine .inl ⟨⟨vs0, k0⟩, fun i n st' H' => n = ds.length - i ∧ i ≤ ds.length ∧ Qv i st' H', ⟨ds.length, by simp, Nat.zero_le _, q0⟩, ?_⟩
    rintro i n st' H' ⟨rfl, hi, g', m', hv, r, x, en'⟩
    obtain ⟨vs, dv, kv⟩ := here i g' m' H' hi hv r x
    rw [kd, if_neg (by decide)] at kv
    by_cases hlt : i < ds.length
    · refine .inr ⟨⟨vs, vs[i]'(by rw [dv.len]; exact hlt), kv, by simp⟩, Qv (i + 1), fun st2 H2 h2 => ⟨ds.length - (i + 1), by omega, rfl, hlt, h2⟩, fun z H2 hy => ?_⟩
      obtain ⟨rfl, hy⟩ := hy
      obtain ⟨y, hy1, hy2⟩ := dv.getV (hy vs kv)
      exact turn i st' _ g' m' y hy1 hv r x en' z hy2
    · have : i = ds.length := by omega
      subst this
      exact .inl ⟨⟨vs, kv, by rw [dv.len]; exact Nat.le_refl _⟩, okm.nx g' m' st' H' (hend g' m' hv) r x en'⟩
  | true =>
    rw [kd] at k0
    rw [if_pos rfl] at k0
    refine .inr ⟨⟨vs0, k0⟩, fun i n st' H' => n = ds.length - i ∧ i ≤ ds.length ∧ Qv i st' H', ⟨ds.length, by simp, Nat.zero_le _, q0⟩, ?_⟩
    rintro i n st' H' ⟨rfl, hi, g', m', hv, r, x, en'⟩
    obtain ⟨vs, dv, kv⟩ := here i g' m' H' hi hv r x
    rw [kd, if_pos rfl] at kv
    by_cases hlt : i < ds.length
    · refine .inr ⟨⟨vs, vs[i]'(by rw [dv.len]; exact hlt), kv, by simp⟩, Qv (i + 1), fun st2 H2 h2 => ⟨ds.length - (i + 1), by omega, rfl, hlt, h2⟩, fun z H2 hy => ?_⟩
      obtain ⟨rfl, hy⟩ := hy
      obtain ⟨y, hy1, hy2⟩ := dv.getV (hy vs kv)
      exact turn i st' _ g' m' y hy1 hv r x en' z hy2
    · have : i = ds.length := by omega
      subst this
      exact .inl ⟨⟨vs, kv, by rw [dv.len]; exact Nat.le_refl _⟩, okm.nx g' m' st' H' (hend g' m' hv) r x en'⟩
/-- over range(n), range(lo, n) -/
def aForR (lo : Bool) (fs : AbA) (i : Nat) (s : AbS) : AbS := fun E g m => fs g m fun ds m1 => ∃ l n : Int, ds = (if lo then [.int l, .int n] else [.int n]) ∧ (lo = false → l = 0) ∧ (-100000 ≤ l ∧ l ≤ 100000 ∧ -100000 ≤ n ∧ n ≤ 1000000) ∧ ∃ Pv : Nat → Sl → Mu → Prop, Pv 0 g m1 ∧
  (∀ (k : Nat) g' m', l + (k : Int) < n → Pv k g' m' → s { nx := Pv (k + 1), rt := E.rt, bk := E.nx, ct := Pv (k + 1) } (put g' i (some (.int (l + (k : Int))))) m') ∧ ∀ g' m', Pv (n - l).toNat g' m' → E.nx g' m'
theorem for_rng {E : AEn} {g : Sl} {m1 : Mu} {H1 S1 : Hp} {D : Ends} {tb : TS} {st : L2.St} {i : Nat} {l n : Int} {Pv : Nat → Sl → Mu → Prop} (qb : ∀ E g m, s E g m → WS X.K S0 tb E g m) (e0 : Ex S0 S1) (rp : Rep X.K H1 m1) (e1 : Ex S1 (R m1 H1)) (en : Env X.K (R m1 H1) g st) (ok : EndOk X.K S1 E D)
    (hp0 : Pv 0 g m1) (hturn : ∀ (k : Nat) g' m', l + (k : Int) < n → Pv k g' m' → s { nx := Pv (k + 1), rt := E.rt, bk := E.nx, ct := Pv (k + 1) } (put g' i (some (.int (l + (k : Int))))) m') (hend : ∀ g' m', Pv (n - l).toNat g' m' → E.nx g' m') :
    ∃ W : Nat → Nat → L2.St → Hp → Prop, (∃ m, W 0 m st H1) ∧ ∀ k m st' H', W k m st' H' →
      ((Itr l (n - l).toNat).stop k H' ∧ D.nx st' H') ∨ ((Itr l (n - l).toNat).go k H' ∧ ∃ N : L2.St → Hp → Prop, (∀ st2 H2, N st2 H2 → ∃ m', m' < m ∧ W (k + 1) m' st2 H2) ∧ ∀ x H2, (Itr l (n - l).toNat).yld k H' x H2 → gName i x st' H2 fun st2 H2 => tb { D with nx := N, ct := N, bk := D.nx } st2 H2) := by
  let Qv : Nat → L2.St → Hp → Prop := fun k st' H' => ∃ g' m', Pv k g' m' ∧ Rep X.K H' m' ∧ Ex S1 (R m' H') ∧ Env X.K (R m' H') g' st'
  refine for_range (lo := l) (n := (n - l).toNat) Qv ⟨g, m1, hp0, rp, e1, en⟩ (fun k st' H' hk ⟨g', m', hv, r, x, en'⟩ => ?_) fun st' H' ⟨g', m', hv, r, x, en'⟩ => ok.nx g' m' st' H' (hend g' m' hv) r x en'
  exact qb _ _ m' (hturn k g' m' (by omega) hv) _ H' S1 r e0 x (en'.put rfl) _ ⟨fun g3 m3 st3 H3 z3 r3 x3 v3 => ⟨g3, m3, z3, r3, x3, v3⟩, ok.rt, ok.nx, fun g3 m3 st3 H3 z3 r3 x3 v3 => ⟨g3, m3, z3, r3, x3, v3⟩⟩
theorem as_forR1 (i : Nat) {x : Str} {p1 p2 pr : Pos} (hp : PassesOwn (model X.prog X.w) X.A X.env X.xe) (hc : X.calm = true) (hm : X.mg "range" = none) (ha : AA X S0 [a] fs) (hN : X.N.Nodup) (hb : AB X S0 body s)
    (hg : Gl X "range" := by rfl) (hi : X.N[i]? = some x := by rfl) (hx : Loc X.env.scope x := by first | exact .inl rfl | exact .inr rfl) (hf : X.fn x = true ∨ X.env.scope.names.lookup x = some .local := by first | exact .inl rfl | exact .inr rfl | assumption) (hs1 : starEach [a] X.env = [(false, eval a X.env)] := by rfl)
    (hs : ∀ y, foldedSetIterable (.Call (.Name "range" pr) [a] [] p2) X.env y = pure y := by intro _; rfl) : AS X S0 (.For (.Name x p1) (.Call (.Name "range" pr) [a] [] p2) body [] pos) (aForR false fs i s) := by
  obtain ⟨ta, pa, qa⟩ := ha.ex
  obtain ⟨tb, pb, qb⟩ := hb.ex
  refine ⟨_, ps_for hp hc (pi_range1 hg hm pa hs1) (pg_name hN hi hx hf) pb hs, fun E g m h st H S1 rp e0 e1 en D ok => ?_⟩
  refine qa g m _ h st H rp (e0.trans e1) en _ fun vs H1 ds m1 h1 po d1 => ?_
  obtain ⟨l, n, rfl, hl, hz, Pv, hp0, hturn, hend⟩ := h1
  cases hl rfl
  obtain ⟨v, rfl, dv⟩ := den1 d1
  cases dv
  refine ⟨n, rfl, by omega, by omega, ?_⟩
  have e : n.toNat = (n - 0).toNat := by omega
  rw [e]
  exact for_rng qb e0 po.1 (e1.trans po.2) (en.mono po.2) ok hp0 hturn hend
theorem as_forR2 (i : Nat) {x : Str} {p1 p2 pr : Pos} (hp : PassesOwn (model X.prog X.w) X.A X.env X.xe) (hc : X.calm = true) (hm : X.mg "range" = none) (ha : AA X S0 [a, b] fs) (hN : X.N.Nodup) (hb : AB X S0 body s)
    (hg : Gl X "range" := by rfl) (hi : X.N[i]? = some x := by rfl) (hx : Loc X.env.scope x := by first | exact .inl rfl | exact .inr rfl) (hf : X.fn x = true ∨ X.env.scope.names.lookup x = some .local := by first | exact .inl rfl | exact .inr rfl | assumption) (hs1 : starEach [a, b] X.env = [(false, eval a X.env), (false, eval b X.env)] := by rfl) (hs2 : starEach [b] X.env = [(false, eval b X.env)] := by rfl)
    (hs : ∀ y, foldedSetIterable (.Call (.Name "range" pr) [a, b] [] p2) X.env y = pure y := by intro _; rfl) : AS X S0 (.For (.Name x p1) (.Call (.Name "range" pr) [a, b] [] p2) body [] pos) (aForR true fs i s) := by
  obtain ⟨ta, pa, qa⟩ := ha.ex
  obtain ⟨tb, pb, qb⟩ := hb.ex
  refine ⟨_, ps_for hp hc (pi_range2 hg hm pa hs1 hs2) (pg_name hN hi hx hf) pb hs, fun E g m h st H S1 rp e0 e1 en D ok => ?_⟩
  refine qa g m _ h st H rp (e0.trans e1) en _ fun vs H1 ds m1 h1 po d1 => ?_
  obtain ⟨l, n, rfl, hl, hz, Pv, hp0, hturn, hend⟩ := h1
  obtain ⟨v, w, rfl, dv, dw⟩ := den2 d1
  cases dv
  cases dw
  refine ⟨l, n, rfl, ⟨by omega, by omega, by omega, by omega⟩, ?_⟩
  exact for_rng qb e0 po.1 (e1.trans po.2) (en.mono po.2) ok hp0 hturn hend
end
end AL
set_option maxHeartbeats 1000000
namespace AL
open PySem L2 Evl
section
variable {X : Cx} {S0 : Hp} {a b c e o elt : Expr} {es ifs : List Expr} {fa fb fc fo fe fi : Ab} {ft fu : AbT} {fs fr : AbA} {pos : Pos} {K : PySem.W.Frag} {scope : Scope} {own : List (Str × Nat)}
/-! ### comprehensions -/
def wipeD (g : Sl) : List Nat → Sl
  | [] => g
  | v :: vs => put (wipeD g vs) v none
theorem env_wipe {S : Hp} {g : Sl} {st : L2.St} (h : Env K S g st) : ∀ vs : List Nat, Env K S (wipeD g vs) (wipe st vs)
  | [] => h
  | v :: vs => (env_wipe h vs).gone
/-- every block that the comprehension may run in -/
abbrev AllB (X : Cx) (scope : Scope) (p : Cx → Prop) : Prop := ∀ (s : Shared) (H : Hp) (C : Addr) (cl : List (Str × Addr)) (fp : List Addr), p (X.blk s H scope (compEnvC scope cl C X.env) fp)
theorem all_ae (h : AllB X scope fun Y => AE Y S0 e fe) : ∃ t, (AllB X scope fun Y => PE Y e t) ∧ ∀ g m P, fe g m P → WX X.K S0 t g m P := by
  refine ⟨fun st H Q => ∀ s H' C cl fp, (Classical.choose (h s H' C cl fp).ex) st H Q, fun s H' C cl fp => ⟨fun pins s' st H Q I hw => (Classical.choose_spec (h s H' C cl fp).ex).1.run pins s' st H Q I (hw s H' C cl fp)⟩, fun g m P ha st H rp e0 en Q q s H' C cl fp => ?_⟩
  exact (Classical.choose_spec (h s H' C cl fp).ex).2 g m P ha st H rp e0 en Q q
theorem all_at (h : AllB X scope fun Y => AT Y S0 e ft) : ∃ t, (AllB X scope fun Y => PT Y e t) ∧ ∀ g m P, ft g m P → WT X.K S0 t g m P := by
  refine ⟨fun st H Q => ∀ s H' C cl fp, (Classical.choose (h s H' C cl fp).ex) st H Q, fun s H' C cl fp => ⟨fun pins s' st H Q I hw => (Classical.choose_spec (h s H' C cl fp).ex).1.run pins s' st H Q I (hw s H' C cl fp)⟩, fun g m P ha st H rp e0 en Q q s H' C cl fp => ?_⟩
  exact (Classical.choose_spec (h s H' C cl fp).ex).2 g m P ha st H rp e0 en Q q
/-- the tests of a comprehension: none or one -/
structure ATs (X : Cx) (S0 : Hp) (scope : Scope) (ifs : List Expr) (f : AbT) : Prop where
  ex : ∃ t, (AllB X scope fun Y => PTs Y ifs t) ∧ ∀ g m P, f g m P → WT X.K S0 t g m P
def aYes : AbT := fun _ m P => P true m
theorem ats_nil : ATs X S0 scope [] aYes := ⟨_, fun _ _ _ _ _ => pts_nil, fun g m P h st H rp e0 en Q q => q true H m h (Po.refl rp)⟩
theorem ats_one (h : AllB X scope fun Y => AT Y S0 c ft) : ATs X S0 scope [c] ft := by
  obtain ⟨t, p, q⟩ := all_at h
  exact ⟨t, fun s H C cl fp => pts_one (p s H C cl fp), q⟩
/-- a comprehension's target: a name, or names in a tuple -/
structure ACg (X : Cx) (S0 : Hp) (scope : Scope) (vs : List Nat) (tg : Expr) (k : AbG) : Prop where
  ex : ∃ t, (AllB X scope fun Y => PG Y tg t) ∧ ∀ d g m P, k d (wipeD g vs) m P → ∀ v st H, Rep X.K H m → Env X.K (R m H) g st → Den X.K (R m H) d v →
    ∀ Q : L2.St → Hp → Prop, (∀ g' st', P g' m → wipe st' vs = wipe st vs → Env X.K (R m H) g' st' → Q st' H) → t v (wipe st vs) H Q
theorem set_wipe {st : L2.St} {x : Option V} {j : Nat} : ∀ {vs : List Nat}, j ∈ vs → wipe (st.set j x) vs = wipe st vs
  | v :: vs, h => by
    unfold wipe
    by_cases hj : j ∈ vs
    · rw [set_wipe hj]
    · have e : j = v := by
        rcases List.mem_cons.mp h with z | z
        · exact z
        · exact (hj z).elim
      subst e
      have gen : ∀ ws : List Nat, j ∉ ws → wipe (st.set j x) ws = (wipe st ws).set j x := by
        intro ws
        induction ws with
        | nil =>
          intro _
          rfl
        | cons w ws ih =>
          intro hw
          unfold wipe
          rw [ih (fun z => hw (List.mem_cons_of_mem _ z)), List.set_comm _ _ (fun z => hw (by rw [z]; exact List.mem_cons_self))]
      rw [gen vs hj, List.set_set]
theorem wipe_wipe {st : L2.St} : ∀ {vs ws : List Nat}, (∀ j ∈ vs, j ∈ ws) → wipe (wipe st vs) ws = wipe st ws
  | [], _, _ => rfl
  | v :: vs, ws, h => by
    show wipe ((wipe st vs).set v none) ws = wipe st ws
    rw [set_wipe (h v List.mem_cons_self), wipe_wipe fun j hj => h j (List.mem_cons_of_mem _ hj)]
theorem acg_name {vs : List Nat} (j : Nat) {x : Str} {px : Pos} (hv : j ∈ vs) (h : AllB X scope fun Y => PG Y (.Name x px) (gName j)) : ACg X S0 scope vs (.Name x px) (kName j) := by
  refine ⟨_, h, fun d g m P hk v st H rp en dv Q q => ?_⟩
  exact q _ _ hk (by rw [set_wipe hv, wipe_wipe fun _ z => z]) ((env_wipe en vs).put dv)
/-- two names -/
def kTwo (i j : Nat) : AbG := fun d g m P => match seqOf m d with
  | some [x, y] => P (put (put g i (some x)) j (some y)) m
  | _ => False
theorem acg_two {vs : List Nat} (i j : Nat) {e1 e2 : Expr} {k : Nat} (hi : i ∈ vs) (hj : j ∈ vs) (h1 : AllB X scope fun Y => PG Y (.Tuple [e1, e2] k pos) (gTup X.K 2 (gCons (gName i) (gCons (gName j) gNil))))
    (h2 : AllB X scope fun Y => PG Y (.Tuple [e1, e2] k pos) (gLst X.K 2 (gCons (gName i) (gCons (gName j) gNil)))) : ACg X S0 scope vs (.Tuple [e1, e2] k pos) (kTwo i j) := by
  refine ⟨fun v st H Q => gTup X.K 2 (gCons (gName i) (gCons (gName j) gNil)) v st H Q ∨ gLst X.K 2 (gCons (gName i) (gCons (gName j) gNil)) v st H Q,
    fun s H C cl fp => ⟨fun pins s' st H' v u Q I r hw => hw.elim (fun z => (h1 s H C cl fp).run pins s' st H' v u Q I r z) (fun z => (h2 s H C cl fp).run pins s' st H' v u Q I r z)⟩, fun d g m P hk v st H rp en dv Q q => ?_⟩
  have hk' : (match seqOf m d with
    | some [x, y] => P (put (put (wipeD g vs) i (some x)) j (some y)) m
    | _ => False) := hk
  split at hk'
  · rename_i x y e
    obtain ⟨p, ws, rfl, hs, hd⟩ := seq_den rp dv e
    obtain ⟨v1, v2, rfl, d1, d2⟩ := den2 hd
    have fin : Q (((wipe st vs).set i (some v1)).set j (some v2)) H := q _ _ hk' (by rw [set_wipe hj, set_wipe hi, wipe_wipe fun _ z => z]) (((env_wipe en vs).put d1).put d2)
    rcases hs with hs | hs
    · exact .inr ⟨p, _, rfl, hs, rfl, v1, [v2], rfl, v2, [], rfl, rfl, fin⟩
    · exact .inl ⟨p, _, rfl, hs, rfl, v1, [v2], rfl, v2, [], rfl, rfl, fin⟩
  · exact hk'.elim
/-- what a comprehension's turns are to do: P at each end -/
def lcTurns (n : Nat) (item : Nat → D) (ok : Mu → Prop) (g : Sl) (vs : List Nat) (k : AbG) (ft : AbT) (fe : Ab) (p : Addr) (Pv : Nat → List D → Mu → Prop) : Prop :=
  (∀ i acc m, i ≤ n → Pv i acc m → ok m ∧ m p = some (.lst acc) ∧ acc.length < 100000) ∧
  ∀ i acc m, i < n → Pv i acc m → k (item i) (wipeD g vs) m fun g2 m2 => ft g2 m2 fun b m3 =>
    if b = true then fe g2 m3 fun y m4 => m4 p = some (.lst acc) ∧ Pv (i + 1) (acc ++ [y]) (mset m4 p (.lst (acc ++ [y]))) else Pv (i + 1) acc m3
def aLc (fro : Bool) (fa : Ab) (vs : List Nat) (k : AbG) (ft : AbT) (fe : Ab) : Ab := fun g m P => fa g m fun d m1 => ∃ ds, seqOf m1 d = some ds ∧ ∀ p, m1 p = none → ∃ Pv : Nat → List D → Mu → Prop, Pv 0 [] (mset m1 p (.lst [])) ∧
  lcTurns ds.length (fun i => ds.getD i .non) (fun m' => seqOf m' d = some ds) g vs k ft fe p Pv ∧ ∀ acc m', Pv ds.length acc m' → if fro = true then P (.lst acc) (mdel m' p) else P (.box p) m'
def aLcR (fro : Bool) (fs : AbA) (vs : List Nat) (k : AbG) (ft : AbT) (fe : Ab) : Ab := fun g m P => fs g m fun ds m1 => match ds with
  | [.int n] => n ≤ 100000 ∧ -100000 ≤ n ∧ ∀ p, m1 p = none → ∃ Pv : Nat → List D → Mu → Prop, Pv 0 [] (mset m1 p (.lst [])) ∧
    lcTurns n.toNat (fun i => .int i) (fun _ => True) g vs k ft fe p Pv ∧ ∀ acc m', Pv n.toNat acc m' → if fro = true then P (.lst acc) (mdel m' p) else P (.box p) m'
  | _ => False
theorem lc_gen {fro : Bool} {J : It} {n : Nat} {item : Nat → D} {okm : Mu → Prop} {g : Sl} {vs : List Nat} {k : AbG} {m1 : Mu} {H1 : Hp} {st : L2.St} {tg : TG} {tt : TT} {te : TE} {P : PD} {Q : VK}
    (rp : Rep K H1 m1) (e0 : Ex S0 (R m1 H1)) (en : Env K (R m1 H1) g st) (qg : ∀ d g m P, k d (wipeD g vs) m P → ∀ v st H, Rep K H m → Env K (R m H) g st → Den K (R m H) d v →
      ∀ Q : L2.St → Hp → Prop, (∀ g' st', P g' m → wipe st' vs = wipe st vs → Env K (R m H) g' st' → Q st' H) → tg v (wipe st vs) H Q)
    (qt : ∀ g m P, ft g m P → WT K S0 tt g m P) (qe : ∀ g m P, fe g m P → WX K S0 te g m P)
    (hJ : ∀ i m' H', i ≤ n → okm m' → Rep K H' m' → Ex (R m1 H1) (R m' H') → (i = n → J.stop i H') ∧ (i < n → J.go i H') ∧ ∀ x H2, i < n → J.yld i H' x H2 → H2 = H' ∧ Den K (R m' H') (item i) x)
    (h : ∀ p, m1 p = none → ∃ Pv : Nat → List D → Mu → Prop, Pv 0 [] (mset m1 p (.lst [])) ∧ lcTurns n item okm g vs k ft fe p Pv ∧ ∀ acc m', Pv n acc m' → if fro = true then P (.lst acc) (mdel m' p) else P (.box p) m')
    (q : ∀ v H' d m', P d m' → Po K m1 H1 m' H' → Den K (R m' H') d v → Q v H') :
    ∀ Dl, H1 Dl = none → ∃ W : Nat → Nat → Hp → Prop, (∃ m, W 0 m (upd H1 Dl (.lst []))) ∧ ∀ i m H, W i m H → (J.stop i H ∧ Q (.ref Dl) H) ∨ (J.go i H ∧ ∃ Nx : Hp → Prop, (∀ H', Nx H' → ∃ m', m' < m ∧ W (i + 1) m' H') ∧
      ∀ x H', J.yld i H x H' → tg x (wipe st vs) H' fun s2 H2 => wipe s2 vs = wipe st vs ∧ tt s2 H2 fun b H3 =>
        if b = true then te s2 H3 fun y H4 => ∃ acc, H4 Dl = some (.lst acc) ∧ acc.length < sizeLine ∧ Nx (upd H4 Dl (.lst (acc ++ [y]))) else Nx H3) := by
  intro Dl hD
  obtain ⟨Pv, h0, ⟨hst, htn⟩, hend⟩ := h Dl (rp.fresh hD)
  let Qv : Nat → Hp → Prop := fun i H' => ∃ acc m', Pv i acc m' ∧ Po K m1 H1 m' H'
  refine ⟨fun i w H' => w = n - i ∧ i ≤ n ∧ Qv i H', ⟨n, by simp, Nat.zero_le _, [], _, h0, Po.newL rp hD rfl⟩, ?_⟩
  rintro i w H' ⟨rfl, hi, acc, m', hv, po⟩
  obtain ⟨hok, hacc, hlen⟩ := hst i acc m' hi hv
  obtain ⟨j1, j2, j3⟩ := hJ i m' H' hi hok po.1 po.2
  by_cases hlt : i < n
  · refine .inr ⟨j2 hlt, Qv (i + 1), fun H2 h2 => ⟨n - (i + 1), by omega, rfl, hlt, h2⟩, fun x H2 hy => ?_⟩
    obtain ⟨rfl, dx⟩ := j3 x H2 hlt hy
    refine qg _ g m' _ (htn i acc m' hlt hv) x st _ po.1 (en.mono po.2) dx _ fun g2 s2 h2 hw en2 => ⟨hw, ?_⟩
    refine qt g2 m' _ h2 s2 _ po.1 (e0.trans po.2) en2 _ fun b H3 m3 h3 p3 => ?_
    cases b with
    | false =>
      rw [if_neg (by decide)] at h3 ⊢
      exact ⟨acc, m3, h3, po.trans p3⟩
    | true =>
      rw [if_pos rfl] at h3 ⊢
      refine qe g2 m3 _ h3 s2 H3 p3.1 ((e0.trans po.2).trans p3.2) (en2.mono p3.2) _ fun y H4 d m4 h4 p4 dy => ?_
      obtain ⟨us, hu, du⟩ := p4.1 Dl _ h4.1
      refine ⟨us, hu, sz_lt (by rw [du.len]; exact hlen), acc ++ [d], _, h4.2, (po.trans (p3.trans p4)).trans (Po.setL p4.1 h4.1 (du.app (DenL.one dy)))⟩
  · have : i = n := by omega
    subst this
    refine .inl ⟨j1 rfl, ?_⟩
    have hf := hend acc m' hv
    cases fro with
    | true =>
      rw [if_pos rfl] at hf
      exact q _ H' _ _ hf (po.trans (Po.del po.1)) (den_frozen po.1 hacc)
    | false =>
      rw [if_neg (by decide)] at hf
      exact q _ H' _ _ hf po rfl
theorem lc_sound (fro : Bool) {vs : List Nat} {k : AbG} {ta te : TE} {tg' : TG} {tt : TT} (qa : ∀ g m P, fa g m P → WX X.K S0 ta g m P) (qg : ∀ d g m P, k d (wipeD g vs) m P → ∀ v st H, Rep X.K H m → Env X.K (R m H) g st → Den X.K (R m H) d v →
      ∀ Q : L2.St → Hp → Prop, (∀ g' st', P g' m → wipe st' vs = wipe st vs → Env X.K (R m H) g' st' → Q st' H) → tg' v (wipe st vs) H Q)
    (qt : ∀ g m P, ft g m P → WT X.K S0 tt g m P) (qe : ∀ g m P, fe g m P → WX X.K S0 te g m P) : ∀ g m P, aLc fro fa vs k ft fe g m P → WX X.K S0 (tLc (iSq X.K ta) tg' tt te vs) g m P := by
  intro g m P h st H rp e0 en Q q
  refine qa g m _ h st H rp e0 en _ fun v H1 d m1 h1 p1 d1 => ?_
  obtain ⟨ds, eds, h1⟩ := h1
  obtain ⟨p, rfl⟩ := d1.refd eds
  obtain ⟨vs0, dv0, k0⟩ := seq_kind p1.1 d1 eds
  refine ⟨p, rfl, ?_⟩
  have item : ∀ (i : Nat) (y : D), ds[i]? = some y → ds.getD i .non = y := fun i y z => by
    rw [List.getD_eq_getElem?_getD, z]
    rfl
  cases kd : isTup d with
  | false =>
    rw [kd, if_neg (by decide)] at k0
    refine .inl ⟨⟨vs0, k0⟩, lc_gen (n := ds.length) p1.1 (e0.trans p1.2) (en.mono p1.2) qg qt qe (fun i m' H' hi hok r x => ?_) h1 fun v H' d' m' hp po dv => q v H' d' m' hp (p1.trans po) dv⟩
    obtain ⟨vs, dv, kv⟩ := seq_kind r (Den.mono x _ _ d1) hok
    rw [kd, if_neg (by decide)] at kv
    refine ⟨fun z => ⟨vs, kv, by rw [dv.len, z]; exact Nat.le_refl _⟩, fun z => ⟨vs, vs[i]'(by rw [dv.len]; exact z), kv, by simp⟩, fun y H2 z hy => ?_⟩
    obtain ⟨rfl, hy⟩ := hy
    obtain ⟨w, hw, dw⟩ := dv.getV (hy vs kv)
    rw [item i w hw]
    exact ⟨rfl, dw⟩
  | true =>
    rw [kd, if_pos rfl] at k0
    refine .inr ⟨⟨vs0, k0⟩, lc_gen (n := ds.length) p1.1 (e0.trans p1.2) (en.mono p1.2) qg qt qe (fun i m' H' hi hok r x => ?_) h1 fun v H' d' m' hp po dv => q v H' d' m' hp (p1.trans po) dv⟩
    obtain ⟨vs, dv, kv⟩ := seq_kind r (Den.mono x _ _ d1) hok
    rw [kd, if_pos rfl] at kv
    refine ⟨fun z => ⟨vs, kv, by rw [dv.len, z]; exact Nat.le_refl _⟩, fun z => ⟨vs, vs[i]'(by rw [dv.len]; exact z), kv, by simp⟩, fun y H2 z hy => ?_⟩
    obtain ⟨rfl, hy⟩ := hy
    obtain ⟨w, hw, dw⟩ := dv.getV (hy vs kv)
    rw [item i w hw]
    exact ⟨rfl, dw⟩
theorem ae_lc (fro : Bool) {tg : Expr} {k : AbG} (hc : X.calm = true) (hN : X.N.Nodup) (ok : BlkOk X.N X.env.scope scope own) (ha : AE X S0 a fa) (hg : ACg X S0 scope (own.map (·.2)) tg k) (ht : ATs X S0 scope ifs ft) (he : AllB X scope fun Y => AE Y S0 elt fe)
    (hs : ∀ x, foldedSetIterable a X.env x = pure x := by intro _; rfl) : AE X S0 (.ListComp elt [⟨tg, a, ifs, 0⟩] scope pos) (aLc fro fa (own.map (·.2)) k ft fe) := by
  obtain ⟨ta, pa, qa⟩ := ha.ex
  obtain ⟨tg', pg, qg⟩ := hg.ex
  obtain ⟨tt, pt, qt⟩ := ht.ex
  obtain ⟨te, pe, qe⟩ := all_ae he
  exact ⟨_, pe_lc hc hN (pi_sq pa) ok pg pt pe hs, lc_sound fro qa qg qt qe⟩
theorem lcR_sound (fro : Bool) {vs : List Nat} {k : AbG} {ta : TA} {te : TE} {tg' : TG} {tt : TT} (qa : ∀ g m P, fs g m P → WA X.K S0 ta g m P) (qg : ∀ d g m P, k d (wipeD g vs) m P → ∀ v st H, Rep X.K H m → Env X.K (R m H) g st → Den X.K (R m H) d v →
      ∀ Q : L2.St → Hp → Prop, (∀ g' st', P g' m → wipe st' vs = wipe st vs → Env X.K (R m H) g' st' → Q st' H) → tg' v (wipe st vs) H Q)
    (qt : ∀ g m P, ft g m P → WT X.K S0 tt g m P) (qe : ∀ g m P, fe g m P → WX X.K S0 te g m P) : ∀ g m P, aLcR fro fs vs k ft fe g m P → WX X.K S0 (tLc (iRng1 ta) tg' tt te vs) g m P := by
  intro g m P h st H rp e0 en Q q
  refine qa g m _ h st H rp e0 en _ fun vs H1 ds m1 h1 p1 d1 => ?_
  match ds, h1 with
  | [.int n], h1 =>
    obtain ⟨v, rfl, dv⟩ := den1 d1
    cases dv
    obtain ⟨hn1, hn2, h1⟩ := h1
    refine ⟨n, rfl, by omega, by omega, lc_gen (n := n.toNat) p1.1 (e0.trans p1.2) (en.mono p1.2) qg qt qe (fun i m' H' hi hok r x => ?_) h1 fun v H' d' m' hp po dv => q v H' d' m' hp (p1.trans po) dv⟩
    refine ⟨fun z => ?_, fun z => z, fun y H2 z hy => ?_⟩
    · show n.toNat ≤ i
      omega
    · obtain ⟨rfl, rfl⟩ := hy
      refine ⟨rfl, ?_⟩
      show V.int (0 + (i : Nat)) = V.int i
      rw [Int.zero_add]
theorem ae_lcR (fro : Bool) {tg : Expr} {k : AbG} {pr p2 : Pos} (hc : X.calm = true) (hN : X.N.Nodup) (ok : BlkOk X.N X.env.scope scope own) (hm : X.mg "range" = none) (ha : AA X S0 [a] fs) (hg : ACg X S0 scope (own.map (·.2)) tg k) (ht : ATs X S0 scope ifs ft) (he : AllB X scope fun Y => AE Y S0 elt fe)
    (hgl : Gl X "range" := by rfl) (hs1 : starEach [a] X.env = [(false, eval a X.env)] := by rfl) (hs : ∀ x, foldedSetIterable (.Call (.Name "range" pr) [a] [] p2) X.env x = pure x := by intro _; rfl) :
    AE X S0 (.ListComp elt [⟨tg, .Call (.Name "range" pr) [a] [] p2, ifs, 0⟩] scope pos) (aLcR fro fs (own.map (·.2)) k ft fe) := by
  obtain ⟨ta, pa, qa⟩ := ha.ex
  obtain ⟨tg', pg, qg⟩ := hg.ex
  obtain ⟨tt, pt, qt⟩ := ht.ex
  obtain ⟨te, pe, qe⟩ := all_ae he
  exact ⟨_, pe_lc hc hN (pi_range1 hgl hm pa hs1) ok pg pt pe hs, lcR_sound fro qa qg qt qe⟩
end
end AL
set_option maxHeartbeats 1000000
namespace AL
open PySem L2 Evl
/-- what is wished of an error: its class, its fields, what is mutable then -/
abbrev PX := Addr → List (Str × D) → Mu → Prop
abbrev ASp := List D → Mu → PD → PX → Prop
def XW (K : PySem.W.Frag) (S0 : Hp) (W : PX) (cls : Value) (d : Option Addr) (H : Hp) : Prop :=
  ∃ (C dd : Addr) (fs : List (Str × D)) (gs : List (Str × V)) (m : Mu), cls = .ref C ∧ d = some dd ∧ W C fs m ∧ Rep K H m ∧ Ex S0 (R m H) ∧ m dd = none ∧ H dd = some (.xd gs) ∧ DenF K (R m H) fs gs
def lift (K : PySem.W.Frag) (sp : ASp) : Sp := fun vs H Q E => ∃ (ds : List D) (m : Mu) (P : PD) (W : PX), DenL K (R m H) ds vs ∧ Rep K H m ∧ sp ds m P W ∧
  (∀ v H' d m', P d m' → Po K m H m' H' → Den K (R m' H') d v → Q v H') ∧ ∀ cls d H', XW K (R m H) W cls d H' → E cls d H'
/-- what data may be told as later -/
def Fz (K : PySem.W.Frag) (d : D) (m : Mu) (d' : D) (m' : Mu) : Prop := ∀ H v, Rep K H m → Den K (R m H) d v → Po K m H m' H ∧ Den K (R m' H) d' v
section
variable {K : PySem.W.Frag} {d d' d2 : D} {m m' m2 : Mu}
theorem Fz.refl : Fz K d m d m := fun _ _ r h => ⟨Po.refl r, h⟩
theorem Fz.drop (p : Addr) : Fz K d m d (mdel m p) := fun _ _ r h => ⟨Po.del r, Den.mono (Po.del r).2 _ _ h⟩
theorem Fz.lst {p : Addr} {ds : List D} (e : m p = some (.lst ds)) : Fz K (.box p) m (.lst ds) (mdel m p) := fun H v r h => by
  cases h
  exact ⟨Po.del r, den_frozen r e⟩
theorem Fz.trans (a : Fz K d m d' m') (b : Fz K d' m' d2 m2) : Fz K d m d2 m2 := fun H v r h =>
  let ⟨p, h1⟩ := a H v r h
  let ⟨p2, h2⟩ := b H v p.1 h1
  ⟨p.trans p2, h2⟩
end
def fzE (K : PySem.W.Frag) (P : PD) : PD := fun d m => ∃ d' m', Fz K d m d' m' ∧ P d' m'
theorem fzE.of {K : PySem.W.Frag} {P : PD} {d : D} {m : Mu} (h : P d m) : fzE K P d m := ⟨d, m, Fz.refl, h⟩
section
variable {P : Program} {w : World} {K : PySem.W.Frag} {mg : Str → Option Value} {base : Heap}
/-- a def's context -/
abbrev cxA (P : Program) (w : World) (K : PySem.W.Frag) (mg : Str → Option Value) (base : Heap) (N : List Str) (qual : Str) (st : Stmt) (f : Addr) (cdv : Value) (A : Around) (outer : List PySem.Env) (s : Shared) (H : Hp) (E : XK) : Cx := cxOf (L2.CX P w) P w K mg base N qual (defScope st) f cdv A outer s H E
theorem fn_ok {x qual : Str} {st : Stmt} {f : Addr} {fd : FuncData} {N ps : List Str} {k : Nat} {sp : ASp} {body : PX → AbS} (F : Fun K x qual st f fd) (S : FnScope N ps (defScope st)) (len : ∀ ds m P W, sp ds m P W → ds.length = ps.length)
    (hb : ∀ (cdv : Value) (A : Around) (outer : List PySem.Env) (s : Shared) (H : Hp) (E : XK) (S0 : Hp) (W : PX), Room k (A.deeper (PyProof.Rows.envOfC qual (defScope st) s.heap.objs.size f cdv)) →
      Takes (cxA P w K mg base N qual st f cdv A outer s H E) (fun cls d _ H' => XW K S0 W cls d H') → AB (cxA P w K mg base N qual st f cdv A outer s H E) S0 (defBody st) (body W))
    (hr : ∀ ds m Q W, sp ds m Q W → body W { nx := fun _ m' => fzE K Q .non m', rt := fzE K Q } (ds.map some ++ List.replicate (N.length - ds.length) none) m) : FnOk P w K mg base (L2.CX P w) (k + 1) f fd ps (lift K sp) := by
  refine F.okX S (fun vs H Q E h => ?_) (fun cdv A outer s H vs Q E hr' h => ?_)
  · obtain ⟨ds, m, P', W, d1, _, h1, _⟩ := h
    rw [d1.len, len ds m P' W h1]
  · obtain ⟨ds, m, P', W, d1, rp, h1, hq, hx⟩ := h
    have tk : Takes (cxA P w K mg base N qual st f cdv A outer s H E) (fun cls d _ H' => XW K (R m H) W cls d H') := (takes_of rfl rfl rfl rfl).imp fun cls d _ H' z => hx cls d H' z
    obtain ⟨t, pt, qt⟩ := (hb cdv A outer s H E (R m H) W hr' tk).ex
    refine ⟨t, pt, ?_⟩
    refine qt _ _ m (hr ds m P' W h1) _ H (R m H) rp (Ex.refl _) (Ex.refl _) ?_ _ ⟨fun g' m' st' H' ⟨d', m2, hz, hp⟩ r' x' en' => ?_, fun d' m' v H' ⟨d2, m2, hz, hp⟩ r' x' dv => ?_, fun _ _ _ _ z => z.elim, fun _ _ _ _ z => z.elim⟩
    · unfold L2.start
      rw [d1.len]
      exact Env.start _ d1
    · obtain ⟨po, dv⟩ := hz H' .non r' rfl
      exact hq _ H' d' m2 hp ⟨po.1, x'.trans po.2⟩ dv
    · obtain ⟨po, dv'⟩ := hz H' v r' dv
      exact hq v H' d2 m2 hp ⟨po.1, x'.trans po.2⟩ dv'
end
section
variable {X : Cx} {S0 : Hp} {a b c e o : Expr} {es : List Expr} {kws : List Keyword} {fa fb fc fo fe fi : Ab} {ft fu : AbT} {fs fr : AbA} {pos apos p : Pos} {k : Nat} {f C : Addr} {fd : FuncData} {ps : List Str} {sp : ASp} {x : Str}
/-! ### calls of the text's own defs -/
/-- nothing is raised -/
def aCall (sp : ASp) (fs : AbA) : Ab := fun g m P => fs g m fun ds m1 => sp ds m1 P fun _ _ _ => False
theorem noW {K : PySem.W.Frag} {S1 : Hp} {cls : Value} {d : Option Addr} {H : Hp} (h : XW K S1 (fun _ _ _ => False) cls d H) : False := by
  obtain ⟨_, _, _, _, _, _, _, z, _⟩ := h
  exact z
theorem call_sound {K : PySem.W.Frag} {t : TA} {E : XK} {W : PX} (hW : ∀ S1 cls d H, Ex S0 S1 → XW K S1 W cls d H → E cls d H) (s : ∀ g m P, fs g m P → WA K S0 t g m P) :
    ∀ g m P, (fs g m fun ds m1 => sp ds m1 P W) → WX K S0 (tCall (lift K sp) [] E t) g m P := fun g m P h st H rp e0 en Q q =>
  s g m _ h st H rp e0 en _ fun vs H1 ds m1 h1 p1 d1 => by
    rw [List.append_nil]
    exact ⟨ds, m1, P, W, d1, p1.1, h1, fun v H' d m' hp po dv => q v H' d m' hp (p1.trans po) dv, fun cls d H' z => hW _ cls d H' (e0.trans p1.2) z⟩
theorem ae_call (F : FnOk X.prog X.w X.K X.mg X.base (L2.CX X.prog X.w) k f fd ps (lift X.K sp)) (hr : Room k X.A) (hm : X.mg x = some (.ref f)) (hk : PySem.W.keepIn X.K (.ref f) = true) (hb : Binds X.K fd ps []) (ha : AA X S0 (e :: es) fs)
    (hg : Gl X x := by rfl) (hdb : (x == ("__debug__" : Str)) = false := by decide) (he : starEach (e :: es) X.env = (false, eval e X.env) :: starEach es X.env := by rfl) (hpl : (backTo pos (starEach es X.env)).any (·.1) = false := by rfl) :
    AE X S0 (.Call (.Name x p) (e :: es) [] pos) (aCall sp fs) := by
  obtain ⟨t, pt, s⟩ := ha.ex
  exact ⟨_, pe_call F hr hg hm hk hb .nil passL pt hdb he hpl, call_sound (fun _ _ _ _ _ z => (noW z).elim) s⟩
/-- what is raised leaves this def, too -/
def aCallX (W : PX) (sp : ASp) (fs : AbA) : Ab := fun g m P => fs g m fun ds m1 => sp ds m1 P W
theorem xw_mono {K : PySem.W.Frag} {S1 : Hp} {W : PX} {cls : Value} {d : Option Addr} {H : Hp} (e : Ex S0 S1) (h : XW K S1 W cls d H) : XW K S0 W cls d H := by
  obtain ⟨C, dd, fs, gs, m, h1, h2, h3, h4, h5, h6⟩ := h
  exact ⟨C, dd, fs, gs, m, h1, h2, h3, h4, e.trans h5, h6⟩
theorem ae_callX {W : PX} (tk : Takes X (fun cls d _ H' => XW X.K S0 W cls d H')) (F : FnOk X.prog X.w X.K X.mg X.base (L2.CX X.prog X.w) k f fd ps (lift X.K sp)) (hr : Room k X.A) (hm : X.mg x = some (.ref f)) (hk : PySem.W.keepIn X.K (.ref f) = true) (hb : Binds X.K fd ps []) (ha : AA X S0 (e :: es) fs)
    (hg : Gl X x := by rfl) (hdb : (x == ("__debug__" : Str)) = false := by decide) (he : starEach (e :: es) X.env = (false, eval e X.env) :: starEach es X.env := by rfl) (hpl : (backTo pos (starEach es X.env)).any (·.1) = false := by rfl) :
    AE X S0 (.Call (.Name x p) (e :: es) [] pos) (aCallX W sp fs) := by
  obtain ⟨t, pt, s⟩ := ha.ex
  exact ⟨_, pe_call F hr hg hm hk hb .nil (E := fun cls d H' => XW X.K S0 W cls d H') (passes_call tk fun _ _ _ _ z => z) pt hdb he hpl, call_sound (fun _ _ _ _ e z => xw_mono e z) s⟩
/-- f(x=e, ..): all by keywords, in the parameters' order -/
structure AK (X : Cx) (S0 : Hp) (kws : List Keyword) (f : AbA) : Prop where
  ex : ∃ t, PK X kws t ∧ ∀ g m P, f g m P → WA X.K S0 t g m P
theorem ak_nil : AK X S0 [] aNil := ⟨_, pk_nil, fun g m P h st H rp e0 en Q q => q [] H [] m h (Po.refl rp) rfl⟩
theorem ak_cons {nm : Option Str} {kp : Pos} (ha : AE X S0 e fa) (hr : AK X S0 kws fr) : AK X S0 (⟨nm, e, kp⟩ :: kws) (aCons fa fr) := by
  obtain ⟨ta, pa, sa⟩ := ha.ex
  obtain ⟨tb, pb, sb⟩ := hr.ex
  exact ⟨_, pk_cons pa pb, fun g m P h st H rp e0 en Q q => sa g m _ h st H rp e0 en _ fun v H1 d m1 h1 p1 d1 =>
    sb g m1 _ h1 st H1 p1.1 (e0.trans p1.2) (en.mono p1.2) _ fun vs H2 ds m2 h2 p2 d2 =>
      q (v :: vs) H2 (d :: ds) m2 h2 (p1.trans p2) ⟨v, vs, rfl, Den.mono p2.2 _ _ d1, d2⟩⟩
theorem ae_callKX {W : PX} {E : XK} (hW : ∀ S1 cls d H, Ex S0 S1 → XW X.K S1 W cls d H → E cls d H) (hx : Passes (L2.CX X.prog X.w) X E) (F : FnOk X.prog X.w X.K X.mg X.base (L2.CX X.prog X.w) k f fd ps (lift X.K sp)) (hr : Room k X.A) (hm : X.mg x = some (.ref f)) (hk : PySem.W.keepIn X.K (.ref f) = true)
    (hb : KBinds X.K fd ps ps (fun us ws => us ++ ws) (fun us ws => us ++ ws)) (ha : AK X S0 kws fs)
    (hg : Gl X x := by rfl) (hdb : (x == ("__debug__" : Str)) = false := by decide) (hall : (backToKw pos (keywordEach kws X.env)).all (·.1.isSome) = true := by rfl) (hks : (backToKw pos (keywordEach kws X.env)).filterMap (·.1) = ps := by rfl)
    (hpl : ((backTo pos (starEach [] X.env)).any (·.1) || (backToKw pos (keywordEach kws X.env)).any (·.1.isNone)) = false := by rfl) : AE X S0 (.Call (.Name x p) [] kws pos) (aCallX W sp fs) := by
  obtain ⟨t, pt, s⟩ := ha.ex
  refine ⟨fun st H Q => t st H fun vs H1 => lift X.K sp vs H1 Q E, ⟨fun pins s0 st H Q I h => ?_⟩, fun g m P h st H rp e0 en Q q => ?_⟩
  · apply wpAny_Call_Name_kw
    apply ld_glob I hg hm _ hdb
    apply PySem.W.callWith_KW0 (h₀ := X.base) I.ok.mod.kin hk hall _ hpl
    apply thn (pt.run pos pins s0 st H _ I h)
    rintro ws s2 ⟨zs, H2, I2, rz, q2⟩
    refine ⟨I2.kIn, ?_⟩
    rw [hks]
    exact run_fnk F hr hb hx I2 .nil rz q2
  · refine s g m _ h st H rp e0 en _ fun vs H1 ds m1 h1 p1 d1 => ?_
    exact ⟨ds, m1, P, W, d1, p1.1, h1, fun v H' d m' hp po dv => q v H' d m' hp (p1.trans po) dv, fun cls d H' z => hW _ cls d H' (e0.trans p1.2) z⟩
end
end AL
set_option maxHeartbeats 1000000
namespace AL
open PySem L2 Evl
section
variable {X : Cx} {S0 : Hp} {a b c e o i : Expr} {es : List Expr} {kws : List Keyword} {fa fb fc fo fe fi : Ab} {ft fu : AbT} {fs fr : AbA} {pos apos p tpos : Pos} {k : Nat} {f C : Addr} {fd : FuncData} {ps : List Str} {sp : ASp} {x nm : Str} {K : PySem.W.Frag}
/-! ### xs[i] += e -/
theorem get_l : PGet X (rIxL X.K) := by
  intro pn s0 st H x y u v Q I rx ry h
  obtain ⟨q, xs, j, z, rfl, rfl, hq, hj, k0⟩ := h
  cases rx
  obtain ⟨t, rfl⟩ := ry
  obtain ⟨vs, rv, pl, hz⟩ := I.list hq
  obtain ⟨n, h1, h2, h3, h4, h5⟩ := atI_get hj
  obtain ⟨w, hw, rw1⟩ := rv.get h2
  have hl := rv.length
  have hn := line63
  have fin : EP X pn st Q w s0 := ⟨z, H, I, rw1, k0⟩
  unfold L2.atI ixN at hj
  by_cases h0 : 0 ≤ j
  · rw [if_pos h0, if_pos h5] at hj
    obtain ⟨w2, hw2, rw2⟩ := rv.get (show xs[j.toNat]? = some z from hj)
    exact wpAny_getItem_list pl.isList h0 (by omega) (by simpa using hw2) ⟨z, H, I, rw2, k0⟩
  · rw [if_neg h0, if_pos h4] at hj
    obtain ⟨w2, hw2, rw2⟩ := rv.get (show xs[(j + xs.length).toNat]? = some z from hj)
    refine wpAny_getItem_list_neg pl.isList (by omega) (by simp; omega) (by omega) ?_ ⟨z, H, I, rw2, k0⟩
    have e : (vs.toArray.size : Int) = (xs.length : Int) := by simp; omega
    rw [e]
    simpa using hw2
def aAugIx (fn : Int → Int → Int) (fo fi fe : Ab) : AbS := fun E g m => fo g m fun x m1 => fi g m1 fun i m2 => match x, i with
  | .box p, .int n => match m2 p with
    | some (.lst ds) => match atI ds n with
      | some (.int old) => fe g m2 fun d m3 => match d with
        | .int y => fSetIx (.box p) (.int n) (.int (fn old y)) m3 fun m4 => E.nx g m4
        | _ => False
      | _ => False
    | _ => False
  | _, _ => False
theorem as_augIx {op : Operator} {fn : Int → Int → Int} (hp : PIp X op (ipI fn)) (ho : AE X S0 o fo) (hi : AE X S0 i fi) (he : AE X S0 e fe)
    (ha : ∀ ov iv new, augStore i ov iv new = (do holding [new, ov, iv] (setItem ov iv new); release [new, ov, iv] []; pure .next) := by intros; rfl) : AS X S0 (.AugAssign (.Subscript o i tpos) op e pos) (aAugIx fn fo fi fe) := by
  obtain ⟨to, po, qo⟩ := ho.ex
  obtain ⟨ti, pi, qi⟩ := hi.ex
  obtain ⟨te, pe, qe⟩ := he.ex
  refine ⟨_, ps_augS po pi get_l pe hp set_list ha, fun E g m h st H S1 rp e0 e1 en D ok => ?_⟩
  refine qo g m _ h st H rp (e0.trans e1) en _ fun v1 H1 x m1 h1 p1 d1 => ?_
  refine qi g m1 _ h1 st H1 p1.1 ((e0.trans e1).trans p1.2) (en.mono p1.2) _ fun v2 H2 y m2 h2 p2 d2 => ?_
  have d1' := Den.mono p2.2 _ _ d1
  match x, y, h2, d1', d2 with
  | .box p, .int n, h2, d1', d2 =>
    have h2 : (match m2 p with
      | some (.lst ds) => (match atI ds n with
        | some (.int old) => fe g m2 fun d m3 => (match d with
          | .int y => fSetIx (.box p) (.int n) (.int (fn old y)) m3 fun m4 => E.nx g m4
          | _ => False)
        | _ => False)
      | _ => False) := h2
    cases e2 : m2 p with
    | none =>
      rw [e2] at h2
      exact h2.elim
    | some ob =>
      rw [e2] at h2
      cases ob with
      | ins C dx fs => exact h2.elim
      | dic mk kvs => exact h2.elim
      | lst ds =>
        have h2 : (match atI ds n with
          | some (.int old) => fe g m2 fun d m3 => (match d with
            | .int y => fSetIx (.box p) (.int n) (.int (fn old y)) m3 fun m4 => E.nx g m4
            | _ => False)
          | _ => False) := h2
        cases e3 : atI ds n with
        | none =>
          rw [e3] at h2
          exact h2.elim
        | some dd =>
          rw [e3] at h2
          cases dd with
          | int old =>
            obtain ⟨us, hu, du⟩ := p2.1 p _ e2
            obtain ⟨z, hz, dz⟩ := du.atI e3
            cases d1'
            cases d2
            cases dz
            refine ⟨p, us, n, _, rfl, rfl, sq_of hu, hz, ?_⟩
            have p12 := p1.trans p2
            refine qe g m2 _ h2 st H2 p2.1 ((e0.trans e1).trans p12.2) (en.mono p12.2) _ fun v3 H3 d m3 h3 p3 d3 => ?_
            cases d <;> first | exact (show False from h3).elim | skip
            cases d3
            refine ⟨old, _, rfl, rfl, setIx_ok h3 p3.1 rfl rfl rfl fun H4 m4 h4 p4 => ?_⟩
            have p124 := p12.trans (p3.trans p4)
            exact ok.nx g m4 st H4 h4 p4.1 (e1.trans p124.2) (en.mono p124.2)
          | _ => exact (show False from h2).elim
/-! ### instances -/
def fldOf (C : Addr) (m : Mu) (f : Str) : D → Option D
  | .box p => match m p with
    | some (.ins C' _ fs) => if C' = C then fs.lookup f else none
    | _ => none
  | _ => none
theorem fld_den {m : Mu} {H : Hp} {d y : D} {v : V} (rp : Rep K H m) (h : Den K (R m H) d v) (e : fldOf C m nm d = some y) : ∃ p dx gs w, v = .ref p ∧ H p = some (.ins C dx gs) ∧ gs.lookup nm = some w ∧ Den K (R m H) y w := by
  cases d <;> first | cases e | skip
  rename_i p
  have e : (match m p with
    | some (.ins C' _ fs) => if C' = C then fs.lookup nm else none
    | _ => none) = some y := e
  cases q : m p with
  | none =>
    rw [q] at e
    cases e
  | some ob =>
    rw [q] at e
    cases ob with
    | lst ds => cases e
    | dic mk kvs => cases e
    | ins C' dx fs =>
      have ee : (if C' = C then fs.lookup nm else none) = some y := e
      by_cases hc : C' = C
      · rw [if_pos hc] at ee
        subst hc
        obtain ⟨gs, h1, h2⟩ := rp p _ q
        obtain ⟨w, hw, dw⟩ := h2.look ee
        cases h
        exact ⟨p, dx, gs, w, rfl, h1, hw, dw⟩
      · rw [if_neg hc] at ee
        cases ee
def aFld (C : Addr) (f : Str) (fo : Ab) : Ab := fun g m P => fo g m fun x m1 => match fldOf C m1 f x with
  | some d => P d m1
  | none => False
theorem ae_fld (c : Cls X.K C) (n : NoAttr X.K C nm) (ho : AE X S0 o fo) (hb : attributeBase o nm X.env (eval o X.env) = eval o X.env := by rfl) : AE X S0 (.Attribute o nm pos) (aFld C nm fo) := by
  obtain ⟨to, po, qo⟩ := ho.ex
  refine ⟨_, pe_fld po hb, fun g m P h st H rp e0 en Q q => qo g m _ h st H rp e0 en _ fun v H1 x m1 h1 p1 d1 => ?_⟩
  cases e : fldOf C m1 nm x with
  | none =>
    rw [e] at h1
    exact h1.elim
  | some d =>
    rw [e] at h1
    obtain ⟨p, dx, gs, w, rfl, h2, h3, h4⟩ := fld_den p1.1 d1 e
    exact ⟨p, C, dx, gs, w, rfl, h2, c, n, h3, q w H1 d m1 h1 p1 h4⟩
/-- o.f = e -/
def setFld (C : Addr) (f : Str) (x d : D) (m : Mu) (P : Mu → Prop) : Prop := match x with
  | .box p => match m p with
    | some (.ins C' dx fs) => C' = C ∧ fs.length < 1000 ∧ P (mset m p (.ins C dx (putD f d fs)))
    | _ => False
  | _ => False
theorem setFld_ok {x d : D} {m : Mu} {P : Mu → Prop} (h : setFld C nm x d m P) {v w : V} {H : Hp} (rp : Rep K H m) (d1 : Den K (R m H) x v) (d2 : Den K (R m H) d w) {Q : Hp → Prop} (q : ∀ H' m', P m' → Po K m H m' H' → Q H') :
    ∃ p dx gs, v = .ref p ∧ H p = some (.ins C dx gs) ∧ gs.length < 1000 ∧ Q (upd H p (.ins C dx (putF nm w gs))) := by
  cases x <;> first | exact (show False from h).elim | skip
  rename_i p
  have h : (match m p with
    | some (.ins C' dx fs) => C' = C ∧ fs.length < 1000 ∧ P (mset m p (.ins C dx (putD nm d fs)))
    | _ => False) := h
  cases e : m p with
  | none =>
    rw [e] at h
    exact h.elim
  | some ob =>
    rw [e] at h
    cases ob with
    | lst ds => exact h.elim
    | dic mk kvs => exact h.elim
    | ins C' dx fs =>
      obtain ⟨rfl, hl, h⟩ := h
      obtain ⟨gs, h1, h2⟩ := rp p _ e
      cases d1
      exact ⟨p, dx, gs, rfl, h1, by rw [h2.len]; exact hl, q _ _ h (Po.setI rp e (h2.put d2))⟩
def aSetFld (C : Addr) (f : Str) (fo fe : Ab) : AbS := fun E g m => fe g m fun d m1 => fo g m1 fun x m2 => setFld C f x d m2 fun m3 => E.nx g m3
theorem as_fld {p' : Pos} (c : Cls X.K C) (n : NoAttr X.K C nm) (ho : AE X S0 o fo) (he : AE X S0 e fe) (hs : swapsWith e (some (.Attribute o nm p')) pos.line X.env = pure false := by rfl) : AS X S0 (.Assign [.Attribute o nm p'] e pos) (aSetFld C nm fo fe) := by
  obtain ⟨to, po, qo⟩ := ho.ex
  obtain ⟨te, pe, qe⟩ := he.ex
  refine ⟨_, ps_fld po pe hs, fun E g m h st H S1 rp e0 e1 en D ok => ?_⟩
  refine qe g m _ h st H rp (e0.trans e1) en _ fun v1 H1 d m1 h1 p1 d1 => ?_
  refine qo g m1 _ h1 st H1 p1.1 ((e0.trans e1).trans p1.2) (en.mono p1.2) _ fun v2 H2 x m2 h2 p2 d2 => ?_
  obtain ⟨q, dx, gs, rfl, h3, h4, h5⟩ := setFld_ok h2 p2.1 d2 (Den.mono p2.2 _ _ d1) fun H3 m3 h3 p3 => ok.nx g m3 st H3 h3 p3.1 (e1.trans ((p1.trans p2).trans p3).2) (en.mono ((p1.trans p2).trans p3).2)
  exact ⟨q, C, dx, gs, rfl, h3, c, n, h4, h5⟩
/-- o.f += e, numbers -/
def aFldAug (C : Addr) (f : Str) (fo fe : Ab) : AbS := fun E g m => fo g m fun x m1 => match fldOf C m1 f x with
  | some (.int old) => fe g m1 fun d m2 => match d with
    | .int y => setFld C f x (.int (old + y)) m2 fun m3 => E.nx g m3
    | _ => False
  | _ => False
theorem as_fldAug (c : Cls X.K C) (n : NoAttr X.K C nm) (ho : AE X S0 o fo) (he : AE X S0 e fe) : AS X S0 (.AugAssign (.Attribute o nm tpos) .Add e pos) (aFldAug C nm fo fe) := by
  obtain ⟨to, po, qo⟩ := ho.ex
  obtain ⟨te, pe, qe⟩ := he.ex
  refine ⟨_, ps_fldaug po pe in_add, fun E g m h st H S1 rp e0 e1 en D ok => ?_⟩
  refine qo g m _ h st H rp (e0.trans e1) en _ fun v1 H1 x m1 h1 p1 d1 => ?_
  have h1 : (match fldOf C m1 nm x with
    | some (.int old) => fe g m1 fun d m2 => (match d with
      | .int y => setFld C nm x (.int (old + y)) m2 fun m3 => E.nx g m3
      | _ => False)
    | _ => False) := h1
  cases e2 : fldOf C m1 nm x with
  | none =>
    rw [e2] at h1
    exact h1.elim
  | some y =>
    rw [e2] at h1
    cases y with
    | int old =>
      obtain ⟨q, dx, gs, w, rfl, h2, h3, h4⟩ := fld_den p1.1 d1 e2
      cases h4
      refine ⟨q, C, dx, gs, _, rfl, h2, c, n, h3, ?_⟩
      refine qe g m1 _ h1 st H1 p1.1 ((e0.trans e1).trans p1.2) (en.mono p1.2) _ fun v2 H2 d m2 h5 p2 d2 => ?_
      cases d <;> first | exact (show False from h5).elim | skip
      cases d2
      obtain ⟨q', dx', gs', e3, h6, h7, h8⟩ := setFld_ok h5 p2.1 (Den.mono p2.2 _ _ d1) rfl fun H3 m3 h3 p3 => ok.nx g m3 st H3 h3 p3.1 (e1.trans ((p1.trans p2).trans p3).2) (en.mono ((p1.trans p2).trans p3).2)
      cases e3
      exact ⟨old, _, rfl, rfl, dx', gs', h6, h7, h8⟩
    | _ => exact (show False from h1).elim
/-! ### methods of instances, instances made -/
def isI (C : Addr) (nm : Str) (m : Mu) : D → Prop
  | .box p => match m p with
    | some (.ins C' _ fs) => C' = C ∧ fs.lookup nm = none
    | _ => False
  | _ => False
theorem isI_den {m : Mu} {H : Hp} {d : D} {v : V} (rp : Rep K H m) (h : Den K (R m H) d v) (e : isI C nm m d) : ∃ p dx gs, v = .ref p ∧ H p = some (.ins C dx gs) ∧ gs.lookup nm = none := by
  cases d <;> first | exact (show False from e).elim | skip
  rename_i p
  have e : (match m p with
    | some (.ins C' _ fs) => C' = C ∧ fs.lookup nm = none
    | _ => False) := e
  cases q : m p with
  | none =>
    rw [q] at e
    exact e.elim
  | some ob =>
    rw [q] at e
    cases ob with
    | lst ds => exact e.elim
    | dic mk kvs => exact e.elim
    | ins C' dx fs =>
      obtain ⟨rfl, hl⟩ := e
      obtain ⟨gs, h1, h2⟩ := rp p _ q
      cases h
      exact ⟨p, dx, gs, rfl, h1, h2.lookN hl⟩
def aMeth (C : Addr) (nm : Str) (W : PX) (sp : ASp) (fo : Ab) (fs : AbA) : Ab := fun g m P => fo g m fun x m1 => isI C nm m1 x ∧ fs g m1 fun ds m2 => sp (x :: ds) m2 P W
theorem meth_sound {K : PySem.W.Frag} {to : TE} {t : TA} {E : XK} {W : PX} (hW : ∀ S1 cls d H, Ex S0 S1 → XW K S1 W cls d H → E cls d H) (so : ∀ g m P, fo g m P → WX K S0 to g m P) (s : ∀ g m P, fs g m P → WA K S0 t g m P) :
    ∀ g m P, aMeth C nm W sp fo fs g m P → WX K S0 (tMeth C nm (lift K sp) [] E to t) g m P := fun g m P h st H rp e0 en Q q =>
  so g m _ h st H rp e0 en _ fun v H1 x m1 h1 p1 d1 => by
    obtain ⟨hi, h1⟩ := h1
    obtain ⟨p, dx, gs, rfl, h2, h3⟩ := isI_den p1.1 d1 hi
    refine ⟨p, dx, gs, rfl, h2, h3, s g m1 _ h1 st H1 p1.1 (e0.trans p1.2) (en.mono p1.2) _ fun vs H2 ds m2 h4 p2 d2 => ?_⟩
    rw [List.append_nil]
    exact ⟨x :: ds, m2, P, W, ⟨_, _, rfl, Den.mono p2.2 _ _ d1, d2⟩, p2.1, h4, fun v H' d m' hp po dv => q v H' d m' hp ((p1.trans p2).trans po) dv, fun cls d H' z => hW _ cls d H' (e0.trans (p1.trans p2).2) z⟩
theorem ae_meth {W : PX} {E : XK} {pl : Sem Bool} (hW : ∀ S1 cls d H, Ex S0 S1 → XW X.K S1 W cls d H → E cls d H) (hx : Passes (L2.CX X.prog X.w) X E) (c : Cls X.K C) (hm : Meth X.K C nm f) (F : FnOk X.prog X.w X.K X.mg X.base (L2.CX X.prog X.w) k f fd ps (lift X.K sp)) (hr : Room k X.A) (hb : Binds X.K fd ps [])
    (ho : AE X S0 o fo) (ha : AA X S0 (e :: es) fs)
    (hst : starEach (e :: es) X.env = (false, eval e X.env) :: starEach es X.env := by rfl) (hpl : (backTo pos (starEach es X.env)).any (·.1) = false := by rfl)
    (ht : eval (.Call (.Attribute o nm apos) (e :: es) [] pos) X.env = (do
      let ov ← eval o X.env
      standAt apos.atName
      let (f, first) ← holding [ov] (getMethod ov nm pl)
      callWith pos f first (backTo pos (starEach (e :: es) X.env)) (backToKw pos (keywordEach [] X.env))) := by rfl) : AE X S0 (.Call (.Attribute o nm apos) (e :: es) [] pos) (aMeth C nm W sp fo fs) := by
  obtain ⟨to, po, qo⟩ := ho.ex
  obtain ⟨t, pt, s⟩ := ha.ex
  exact ⟨_, pe_meth po c hm F hr hb .nil hx pt hst hpl ht, meth_sound hW qo s⟩
theorem ae_meth0 {W : PX} {E : XK} {pl : Sem Bool} (hW : ∀ S1 cls d H, Ex S0 S1 → XW X.K S1 W cls d H → E cls d H) (hx : Passes (L2.CX X.prog X.w) X E) (c : Cls X.K C) (hm : Meth X.K C nm f) (F : FnOk X.prog X.w X.K X.mg X.base (L2.CX X.prog X.w) k f fd ps (lift X.K sp)) (hr : Room k X.A) (hb : Binds X.K fd ps [])
    (ho : AE X S0 o fo)
    (ht : eval (.Call (.Attribute o nm apos) [] [] pos) X.env = (do
      let ov ← eval o X.env
      standAt apos.atName
      let (g1, first) ← holding [ov] (getMethod ov nm pl)
      callWith pos g1 first (backTo pos (starEach [] X.env)) (backToKw pos (keywordEach [] X.env))) := by rfl) : AE X S0 (.Call (.Attribute o nm apos) [] [] pos) (aMeth C nm W sp fo aNil) := by
  obtain ⟨to, po, qo⟩ := ho.ex
  exact ⟨_, pe_meth0 po c hm F hr hb .nil hx ht, meth_sound hW qo fun g m P h st H rp e0 en Q q => q [] H [] m h (Po.refl rp) rfl⟩
/-- C(..) -/
def aMake (C : Addr) (W : PX) (sp : ASp) (fs : AbA) : Ab := fun g m P => fs g m fun ds m1 => ∀ p dx, m1 p = none → sp (.box p :: ds) (mset m1 p (.ins C dx [])) (fun _ m2 => P (.box p) m2) W
theorem Po.newI {m : Mu} {H : Hp} {q dx C : Addr} (h : Rep K H m) (hq : H q = none) (hd : H dx = none) (ne : dx ≠ q) : Po K m H (mset m q (.ins C dx [])) (upd (upd H dx (.own q)) q (.ins C dx [])) := by
  have mq := h.fresh hq
  have md := h.fresh hd
  have ex : Ex (R m H) (R (mset m q (.ins C dx [])) (upd (upd H dx (.own q)) q (.ins C dx []))) := fun b u hb => by
    obtain ⟨h1, h2⟩ := R_of hb
    have n1 := ne_of_none h2 hq
    have n2 := ne_of_none h2 hd
    rw [R_none (by rw [mset_ne n1]; exact h1), upd_ne n1, upd_ne n2]
    exact h2
  refine ⟨fun b u hb => ?_, ex⟩
  by_cases z : b = q
  · subst z
    rw [mset_same] at hb
    cases hb
    exact ⟨[], upd_same, rfl⟩
  · rw [mset_ne z] at hb
    refine MOk.mono ex ?_ (h b u hb)
    have zd : b ≠ dx := fun y => by
      rw [y, md] at hb
      cases hb
    rw [upd_ne z, upd_ne zd]
theorem ae_make {W : PX} {E : XK} (hW : ∀ S1 cls d H, Ex S0 S1 → XW X.K S1 W cls d H → E cls d H) (hx : Passes (L2.CX X.prog X.w) X E) (M : Mk X.K C f) (F : FnOk X.prog X.w X.K X.mg X.base (L2.CX X.prog X.w) k f fd ps (lift X.K sp)) (hr : Room (k + 1) X.A) (hm : X.mg x = some (.ref C)) (hb : Binds X.K fd ps [])
    (hnon : ∀ ds m P W, sp ds m P W → sp ds m (fun d m' => d = .non ∧ P d m') W) (ha : AA X S0 (e :: es) fs) (hg : Gl X x := by rfl) (hdb : (x == ("__debug__" : Str)) = false := by decide)
    (he : starEach (e :: es) X.env = (false, eval e X.env) :: starEach es X.env := by rfl) (hpl : (backTo pos (starEach es X.env)).any (·.1) = false := by rfl) : AE X S0 (.Call (.Name x p) (e :: es) [] pos) (aMake C W sp fs) := by
  obtain ⟨t, pt, s⟩ := ha.ex
  refine ⟨_, pe_make M F hr hg hm hb .nil hx pt hdb he hpl, fun g m P h st H rp e0 en Q q0 => ?_⟩
  refine s g m _ h st H rp e0 en _ fun vs H1 ds m1 h1 p1 d1 => ?_
  intro q dx hq hd ne
  rw [List.append_nil]
  have p2 := Po.newI (C := C) p1.1 hq hd ne
  refine ⟨.box q :: ds, _, _, W, ⟨_, _, rfl, rfl, DenL.mono p2.2 _ _ d1⟩, p2.1, hnon _ _ _ _ (h1 q dx (p1.1.fresh hq)), fun v H' d m' hp po dv => ?_, fun cls d H' z => hW _ cls d H' (e0.trans (p1.trans p2).2) z⟩
  obtain ⟨rfl, hp⟩ := hp
  exact ⟨dv, q0 (.ref q) H' (.box q) m' hp ((p1.trans p2).trans po) rfl⟩
/-! ### errors with two fields -/
/-- what such a class's __init__ does -/
def spI2 (n1 n2 : Str) (C : Addr) : Sp := fun vs H Q _ => ∃ (a : Addr) (v1 v2 : V), vs = [.ref a, v1, v2] ∧ H a = some (exo a C none) ∧ ∀ dx, H dx = none → dx ≠ a → Q .non (upd (upd (upd H dx (exd dx [(n1, v1)])) a (exo a C (some dx))) dx (exd dx [(n2, v2), (n1, v1)]))
def aRaise (C : Addr) (n1 n2 : Str) (W : PX) (fs : AbA) : AbS := fun E g m => fs g m fun ds m1 => match ds with
  | [d1, d2] => W C [(n2, d2), (n1, d1)] m1
  | _ => False
theorem as_raise {n1 n2 : Str} {W : PX} {CX : CXT} {p' : Pos} (hc : X.calm = true) (tk : Takes X (fun cls d _ H' => XW X.K S0 W cls d H')) (T : OexC X.K C) (iC : PySem.W.findIn X.K (.ref C) "__init__" = some (some (.ref f))) (tI : PySem.W.typeIn X.K (.ref f) = some (.type "function"))
    (F1 : FnOk X.prog X.w X.K X.mg X.base CX k f fd ps (spI2 n1 n2 C)) (hr : Room (k + 1) X.A) (hb : Binds X.K fd ps []) (hx : Passes CX X (fun _ _ _ => False)) (hm : X.mg x = some (.ref C)) (ha : AA X S0 (e :: es) fs) (hg : Gl X x := by rfl)
    (hdb : (x == ("__debug__" : Str)) = false := by decide) (he : starEach (e :: es) X.env = (false, eval e X.env) :: starEach es X.env := by rfl) (hpl : (backTo pos (starEach es X.env)).any (·.1) = false := by rfl) :
    AS X S0 (.Raise (some (.Call (.Name x p) (e :: es) [] pos)) none p') (aRaise C n1 n2 W fs) := by
  obtain ⟨t, pt, s⟩ := ha.ex
  refine ⟨_, ps_raise hc tk (pmk_oex T iC tI F1 hr hb .nil hx hg hm pt hdb he hpl), fun E g m h st H S1 rp e0 e1 en D ok => ?_⟩
  refine s g m _ h st H rp (e0.trans e1) en _ fun vs H1 ds m1 h1 p1 d1 => ?_
  match ds, h1 with
  | [x1, x2], h1 =>
    obtain ⟨v, w, rfl, dv, dw⟩ := den2 d1
    refine ⟨by simp, fun q hq => ⟨q, v, w, rfl, upd_same, fun dx hdx ne => ⟨rfl, dx, _, ?_, upd_same, ?_, ?_⟩⟩⟩
    · rw [upd_ne ne.symm, upd_same]
    · rw [upd_ne ne] at hdx
      exact hdx
    · rw [upd_ne ne] at hdx
      have eq : upd (del (upd (upd (upd (upd H1 q (exo q C none)) dx (exd dx [(n1, v)])) q (exo q C (some dx))) dx (exd dx [(n2, w), (n1, v)])) q) dx (.xd [(n2, w), (n1, v)]) = upd H1 dx (.xd [(n2, w), (n1, v)]) := by
        funext b
        by_cases z1 : b = dx
        · subst z1
          rw [upd_same, upd_same]
        · rw [upd_ne z1, upd_ne z1]
          by_cases z2 : b = q
          · subst z2
            rw [del_same, hq]
          · rw [del_ne z2, upd_ne z1, upd_ne z2, upd_ne z1, upd_ne z2]
      rw [eq]
      obtain ⟨p2, hR⟩ := Po.new (o := .xd [(n2, w), (n1, v)]) p1.1 hdx
      obtain ⟨md, hdd⟩ := R_of hR
      exact ⟨C, dx, _, _, m1, rfl, rfl, h1, p2.1, (e0.trans e1).trans (p1.trans p2).2, md, hdd, w, _, rfl, Den.mono p2.2 _ _ dw, v, [], rfl, Den.mono p2.2 _ _ dv, rfl⟩
end
end AL
set_option maxHeartbeats 2000000
namespace L2
open PySem PySem.Spec PyProof.Rows
section
variable {X : Cx} {pn : List (Addr × Obj)} {nx ne : Str} {cv : Value} {j : Nat} {su : List Stmt} {st0 : Stmt} {q1 q2 pos : Pos} {rest : List ExceptHandler} {tsu : Addr → Value → Option Addr → TS} {D : Ends}
/-- what is wished where 'except nx as ne' is tried: W is wished where it does not take -/
def wNext (K : PySem.W.Frag) (cv : Value) (j : Nat) (tsu : Addr → Value → Option Addr → TS) (W : WX) (D : Ends) : WX := fun cls dd st H =>
  ∃ y, PySem.W.exmOne K cls cv = some y ∧ (y = false → W cls dd st H) ∧
    (y = true → ∀ p, H p = none → tsu p cls dd ⟨fun st' H' => D.nx (st'.set j none) H', D.rt, fun st' H' => D.bk (st'.set j none) H', fun st' H' => D.ct (st'.set j none) H'⟩ (st.set j (some (.ref p))) H)
/-- an error on its way, at the clauses of a try -/
structure Onway (X : Cx) (pn : List (Addr × Obj)) (p : Addr) (B : Heap) (sI : Shared) (st : St) (H : Hp) (cls : Value) (dd : Option Addr) (s : Shared) : Prop where
  inv : Inv X pn st H sI
  nb : ∀ b o, sI.heap.get? b = some o → b ∉ frs X.stack → B.get? b = some o
  up : sI.heap.UpToSlots s.heap
  fly : PySem.HandSPX.FlyingZ B (X.env :: X.outer) p (Zc cls dd) s.heap
  new : H p = none
  os : s.os = sI.os
  bare : AllBare s.gens
theorem Onway.here {p : Addr} {B : Heap} {sI s : Shared} {st : St} {H : Hp} {cls : Value} {dd : Option Addr} (w : Onway X pn p B sI st H cls dd s) : Inv X pn st H s :=
  w.inv.landed w.nb w.fly.1 w.up w.os w.bare
theorem Onway.apart {p : Addr} {B : Heap} {sI s : Shared} {st : St} {H : Hp} {cls : Value} {dd : Option Addr} (hf : X.env.frame = some X.env.locals) (w : Onway X pn p B sI st H cls dd s) : p ≠ X.env.locals ∧ p ∉ X.fs := by
  obtain ⟨ob, vs, h1, _, h2⟩ := w.fly.there
  have no : p ∉ frs (X.env :: X.outer) := by
    intro hm
    obtain ⟨_, ob', h3, h4⟩ := w.fly.2.2.1.mem hm
    rw [h1] at h3
    cases h3
    exact h4 _ h2
  refine ⟨fun z => no (List.mem_filterMap.mpr ⟨X.env, List.mem_cons_self, by rw [hf, z]⟩), fun hm => ?_⟩
  obtain ⟨en, hen, h5⟩ := List.mem_filterMap.mp hm
  exact no (List.mem_filterMap.mpr ⟨en, List.mem_cons_of_mem _ hen, h5⟩)
theorem hb_step (hf : X.env.frame = some X.env.locals) (hN : X.N.Nodup) (hj : X.N[j]? = some ne) (hl : X.env.kindOf ne = some .local) (hc : Names X nx cv)
    (hsu : ∀ (p : Addr) (ob : Obj) (cls : Value) (dd : Option Addr) (l : List (Addr × Obj)), Zc cls dd ob → (∃ vs, ob.data = .fields vs) → PSs (X.suite p ((p, ob) :: l)) (st0 :: su) (tsu p cls dd))
    {p : Addr} {B : Heap} {sI s : Shared} {st : St} {H : Hp} {cls : Value} {dd : Option Addr} (w : Onway X pn p B sI st H cls dd s) {W : WX} (hw : wNext X.K cv j tsu W D cls dd st H)
    (hrest : W cls dd st H → wpAny (model X.prog X.w) X.A (handleBy (.ref p) X.env rest) (SP X pn D) X.xe s) :
    wpAny (model X.prog X.w) X.A (handleBy (.ref p) X.env (.ExceptHandler (some (.Name nx q1)) (some ne) (st0 :: su) q2 :: rest)) (SP X pn D) X.xe s := by
  obtain ⟨y, hy, hno, hyes⟩ := hw
  obtain ⟨nL, nF⟩ := w.apart hf
  obtain ⟨ob, vs, h1, hz, h2⟩ := w.fly.there
  have Is := w.here.suite h1 h2 w.new nL nF
  apply wpAny_handleBy_cons (codeAny_handlers_test ?_) (by intro z; cases z)
  have looks : PySem.W.Looks (model X.prog X.w) s.heap (typeOf (.ref p)) cls := by
    intro A Q E s' k z
    apply wpAny_typeOf_ref (k _ _ h1)
    rw [hz.1]
    exact z
  have asked := PySem.W.exm_one (M := model X.prog X.w) w.here.kIn looks hy
  have named : ∀ {Q E : Value → Shared → Prop}, Q cv s → wpAny (model X.prog X.w) (X.A.mark (some (.ref p))) (eval (.Name nx q1) X.env) Q E s := by
    intro Q E z
    obtain ⟨g, db, g2⟩ := hc
    rcases g2 with g2 | ⟨g2, g3, g4⟩
    · exact ld_glob (X := X.suite p ((p, ob) :: (X.pn ++ pn))) Is g g2 z db
    · exact ld_blt (X := X.suite p ((p, ob) :: (X.pn ++ pn))) Is g g2 g3 z g4 db
  apply named
  apply asked.here
  cases y with
  | false => exact hrest (hno rfl)
  | true =>
    apply codeAny_handlers_suite_as
    apply PySem.HandSPX.lands_againZ w.fly
    intro h3 fl3 up3
    have w3 : Onway X pn p B sI st H cls dd { s with heap := h3 } := ⟨w.inv, w.nb, w.up.trans up3, fl3, w.new, w.os, w.bare⟩
    obtain ⟨ob3, vs3, h13, hz3, h23⟩ := fl3.there
    have Is3 := w3.here.suite h13 h23 w.new nL nF
    refine store_ok (X := X.suite p ((p, ob3) :: (X.pn ++ pn))) (v := .ref p) Is3 hN hj (.inl hl) rfl (fun s5 I5 => ?_) (.inr hl)
    apply wpAny_mono ((hsu p ob3 cls dd (X.pn ++ pn) hz3 ⟨_, h23⟩).run [] s5 _ H _ I5 (hyes rfl p w.new)) _ (fun _ _ z => False.elim z)
    intro f s6 out
    have done : ∀ {st6 : St} {H6 : Hp} {Q : Shared → Prop}, Inv (X.suite p ((p, ob3) :: (X.pn ++ pn))) [] st6 H6 s6 → (∀ s7, Inv X pn (st6.set j none) H6 s7 → Q s7) →
        wpAny (model X.prog X.w) X.A (do bindName X.env ne .none; unbindBehindTheSuite X.env ne q2) (fun _ s7 => Q s7) X.xe s6 :=
      fun {st6 H6 Q} I6 k => gone_ok (I6.unsuite w.inv.ok) hN hj hl k
    cases f with
    | ret u =>
      obtain ⟨v6, st6, H6, I6, r6, k6⟩ := out
      exact done I6 fun s7 I7 => ⟨_, _, _, I7, r6, k6⟩
    | next =>
      obtain ⟨st6, H6, I6, k6⟩ := out
      exact done I6 fun s7 I7 => ⟨_, _, I7, k6⟩
    | brk =>
      obtain ⟨st6, H6, I6, k6⟩ := out
      exact done I6 fun s7 I7 => ⟨_, _, I7, k6⟩
    | cont =>
      obtain ⟨st6, H6, I6, k6⟩ := out
      exact done I6 fun s7 I7 => ⟨_, _, I7, k6⟩
theorem hb_end {Wout : WX} (hs : X.stack = X.env :: X.outer) (hf : X.env.frame = some X.env.locals) (tk : Takes X Wout) {p : Addr} {B : Heap} {sI s : Shared} {st : St} {H : Hp} {cls : Value} {dd : Option Addr}
    (w : Onway X pn p B sI st H cls dd s) (hw : Wout cls dd st H) : wpAny (model X.prog X.w) X.A (handleBy (.ref p) X.env []) (SP X pn D) X.xe s := by
  apply wpAny_handleBy_nil
  obtain ⟨k1, k2, k3, ob, vs, T, oT, ts', he, hz, hd, h1, hr⟩ := id w.fly
  have last : wpAny (model X.prog X.w) X.A (setFlight (.ref p) X.env.frame) (fun _ s4 => wpAny (model X.prog X.w) X.A (throw (.ref p) : Sem Flow) (SP X pn D) X.xe s4) X.xe s := by
    rw [hf]
    apply PySem.HandSPX.setFlight_upZ w.fly
    intro h4 hh4 up4
    apply wpAny_throw
    apply tk
    exact ⟨p, B, sI, pn, st, H, cls, dd, rfl, w.inv, w.nb, w.up.trans up4, .inr (.inr (by rw [hs]; exact hh4)), w.new, w.os, w.bare, hw⟩
  unfold PySem.passOn
  apply wpAny_bind (wpAny_field he hd h1 ?_)
  rw [if_neg (show ¬ ((Value.ref T == Value.none) = true) from by simp)]
  first
    | exact wpAny_bind (wpAny_pure (wpAny_bind last))
    | exact wpAny_bind last
/-- try: body / clauses: what the clauses do is shown apart -/
theorem ps_try_by {body : List Stmt} {hd0 : ExceptHandler} {hds : List ExceptHandler} {tb : WX → TS} {Wc : Ends → WX} (hs : X.stack = X.env :: X.outer) (hf : X.env.frame = some X.env.locals)
    (hb : ∀ (W : WX) (l : List (Addr × Obj)) (xe : Value → Shared → Prop), Takes (X.tr l xe) W → PassesOwn (model X.prog X.w) X.A X.env xe → PSs (X.tr l xe) body (tb W))
    (hh : ∀ (pn : List (Addr × Obj)) (D : Ends) (p : Addr) (B : Heap) (sI s : Shared) (st : St) (H : Hp) (cls : Value) (dd : Option Addr), Onway X pn p B sI st H cls dd s → Wc D cls dd st H →
      wpAny (model X.prog X.w) X.A (handleBy (.ref p) X.env (hd0 :: hds)) (SP X pn D) X.xe s) : PS X (.Try body (hd0 :: hds) [] [] pos) (fun D st H => tb (Wc D) D st H) := by
  constructor
  intro pn s st H D I h
  have ok := I.ok
  have fr : X.A.frames = some (X.env :: X.outer) := by rw [ok.frames, hs]
  apply wpAny_Try_except
  apply wpAny_mono ((hb (Wc D) (X.pn ++ pn) _ (fun u s' hx => ?_) PassesOwn.looking).run [] s st H D (I.toTry _) h) _ (fun e s1 z => z)
  · intro f s1 out
    cases f with
    | ret u =>
      obtain ⟨v, st', H', I', r, k⟩ := out
      exact ⟨v, st', H', I'.ofTry ok, r, k⟩
    | next =>
      obtain ⟨st', H', I', k⟩ := out
      exact wpAny_execs_nil ⟨st', H', I'.ofTry ok, k⟩
    | brk =>
      obtain ⟨st', H', I', k⟩ := out
      exact ⟨st', H', I'.ofTry ok, k⟩
    | cont =>
      obtain ⟨st', H', I', k⟩ := out
      exact ⟨st', H', I'.ofTry ok, k⟩
  · obtain ⟨p, B, sI, l, st', H', cls, dd, rfl, J', nb, up, sky, na, os, ag, hw⟩ := hx
    have sky' : Sky B (X.env :: X.outer) p (Zc cls dd) X.env.locals s'.heap := by rw [← hs]; exact sky
    show wpAny (model X.prog X.w) X.A (noteFrame (.ref p) X.env) _ _ _
    apply Sky.land Zc.steady fr hf sky'
    intro h3 fl3 up3
    exact hh pn D p B sI _ st' H' cls dd ⟨J'.ofTry ok, nb, up.trans up3, fl3, na, os, ag⟩ hw
end
end L2
set_option maxHeartbeats 2000000
namespace PySem.W
open PySem PySem.Spec PySem.Calls PyProof.Rows
section
variable {K : Frag} {Cl : Addr} {own : Option Obj}
theorem found_data {nm : Str} {at0 gt : Value} (h1 : (clsIn K Cl).isSome = true) (h2 : findIn K (.ref Cl) nm = some (some at0)) (h3 : specialIn K at0 "__get__" = some (some gt)) (h4 : takesIn K at0 = some true) :
    findObj K Cl own nm = some (.bind gt at0) := by
  obtain ⟨cd, hcd⟩ := Option.isSome_iff_exists.mp h1
  simp [findObj, hcd, h2, h3, h4]
/-- what must be so of a class of errors -/
structure ErC (K : Frag) (Cl : Addr) : Prop where
  ga : findIn K (.ref Cl) "__getattribute__" = some (some (.builtin "BaseException.__getattribute__"))
  gt : findIn K (.ref Cl) "__getattr__" = some none
  be : subIn K (.ref Cl) (.type "BaseException") = some true
  di : hasDictIn K Cl = true
  ca : findIn K (.ref Cl) "__class__" = some (some (.builtin "object.__class__"))
  sg : specialIn K (.builtin "object.__class__") "__get__" = some (some (.builtin "getset_descriptor.__get__"))
  tk : takesIn K (.builtin "object.__class__") = some true
  ob : mroIn K Cl (.type "object") = some true
theorem er_class {prog : Program} {w : World} {A : Around} {E : Value → Shared → Prop} {s : Shared} {x : Addr} {o : Obj} {Q : Option Value → Shared → Prop} (T : ErC K Cl) (X : K.In s.heap) (I : InstAt s.heap x o Cl own) (h : Q (some (.ref Cl)) { s with toks := s.toks + 1 }) :
    wpAny (model prog w) A (getAttr? (.ref x) "__class__") Q E s := by
  have some_cls : (clsIn K Cl).isSome = true := by
    obtain ⟨cd, z, _⟩ := any_some T.di
    rw [z]
    rfl
  have fo : findObj K Cl own "__class__" = some (.bind (.builtin "getset_descriptor.__get__") (.builtin "object.__class__")) := found_data some_cls T.ca T.sg T.tk
  obtain ⟨hp, gs, dr, tk, os⟩ := s
  have a0 := I.type (M := model prog w)
  have a1 := looks_findIn (M := model prog w) X T.ga
  have a2 := looks_findIn (M := model prog w) X T.gt
  have a3 := looks_find (M := model prog w) X I fo
  have isx : Looks (model prog w) hp (isInstance (.ref x) (.type "BaseException")) true := a0.andThen (looks_subIn X T.be)
  have b0 : (false && onTheHeap (Value.builtin "BaseException.__getattribute__")) = false := rfl
  have b1 : (onTheHeap (Value.ref Cl) && Value.builtin "BaseException.__getattribute__" == Value.builtin "object.__getattribute__") = false := by
    rw [show (Value.builtin "BaseException.__getattribute__" == Value.builtin "object.__getattribute__") = false by decide +kernel]
    rfl
  unfold getAttr? getAttrBy? getAttrBy
  refine wpAny_bind (wpAny_mkText ?_)
  refine wpAny_bind (wpAny_attempt (wpAny_holding ?_))
  refine wpAny_bind (a0.at ?_)
  refine wpAny_bind (a1.at ?_)
  show wpAny _ _ (if (onTheHeap (Value.ref Cl) && Value.builtin "BaseException.__getattribute__" == Value.builtin "object.__getattribute__") = true
    then _ else _) _ _ _
  rw [b1, if_neg Bool.false_ne_true]
  unfold getAttrByItsOwn hookBefore
  refine wpAny_bind ?_
  rw [if_pos (show onTheHeap (Value.ref Cl) = true from rfl)]
  refine a2.at ?_
  refine wpAny_bind (wpAny_attempt (wpAny_holding ?_))
  unfold callGetattribute
  rw [b0, if_neg Bool.false_ne_true]
  unfold boundAndCalled
  rw [PySem.F.excAttr_ValueError.ga.bind (.ref x)]
  refine wpAny_bind (wpAny_pure ?_)
  show wpAny _ _ (call (.builtin "BaseException.__getattribute__")
    [.ref x, .str "__class__" tk]) _ _ _
  refine wpAny_call (codeAny_call_builtin PySem.F.excAttr_ValueError.ga.plain PySem.F.entry_bexc_ga ?_)
  refine @check_slot (model prog w) _ _ ⟨hp, gs, dr, tk + 1, os⟩ "BaseException.__getattribute__" "BaseException" "__getattribute__" (.ref x)
    [.str "__class__" tk] [] _ (by decide +kernel) (by decide +kernel) isx (PySem.F.args_bexc_ga (.ref x) (.str "__class__" tk)) ?_
  unfold Builtin.«object.__getattribute__»
  refine wpAny_bind (wpAny_of_eq (a := ((Value.ref x : Value), [Value.str "__class__" tk])) (by first | rfl | (simp only [slotArgs]; rfl)) ?_)
  refine wpAny_bind (wpAny_pure ?_)
  refine wpAny_bind (a0.at ?_)
  refine wpAny_bind (a3.at ?_)
  show wpAny _ _ (holding [Value.builtin "object.__class__"]
    (call (.builtin "getset_descriptor.__get__") [.builtin "object.__class__", .ref x, .ref Cl]) >>= ret) _ _ _
  refine wpAny_bind (wpAny_holding (wpAny_call ?_))
  refine class_get (s := ⟨hp, gs, dr, tk + 1, os⟩) (ox := o) (od := own) X I T.ob ?_
  refine wpAny_pure ?_
  show wpAny _ _ (handedOut (.ref Cl)) _ _ _
  rw [handedOut_of (v := .ref Cl) rfl]
  first
    | exact wpAny_pure (wpAny_pure h)
    | exact wpAny_pure h
    | exact wpAny_pure (wpAny_bind (wpAny_pure (wpAny_pure h)))
theorem kit_err {x : Addr} {o : Obj} (T : ErC K Cl) : KitX K (.ref x) (.ref Cl) (fun h => InstAt h x o Cl own) where
  ty := fun _ _ _ I => I.type
  it := by
    intro M h X _
    obtain ⟨cd, z, _⟩ := any_some T.di
    unfold clsIn at z
    split at z
    · rename_i ho
      intro A' Q' E' s' k q
      unfold isType loadHead
      exact wpAny_bind (wpAny_loadPart (k _ _ (X _ _ ho))
        (wpAny_pure q))
    · cases z
  ne := by
    intro h tp dd its n sl X htp
    apply Bool.eq_false_iff.mpr
    intro q
    have same : Cl = tp := Value.ref.inj (beq_iff_eq.mp q)
    subst same
    obtain ⟨cd, z, _⟩ := any_some T.di
    unfold clsIn at z
    split at z
    · rename_i ho
      have two := (X _ _ ho).symm.trans htp
      cases two
    · cases z
  ca := fun X I k => er_class T X I k
end
end PySem.W
namespace L2
open PySem PySem.Spec PyProof.Rows
/-- isinstance(e, c) of the error that a suite holds, its dict made -/
def rIsX (K : PySem.W.Frag) (Cl p : Addr) : List V → Hp → VK → Prop := fun xs H Q => ∃ (c : V) (u : Value) (b : Bool), xs = [.ref p, c] ∧ (∀ z, RelV c z → z = u) ∧ PySem.W.kitOne K (.ref Cl) u = some b ∧ Q (.bl b) H
theorem call_isX {X : Cx} {p Cl dd : Addr} {ob : Obj} {l : List (Addr × Obj)} (T : PySem.W.ErC X.K Cl) (hz : Zc (.ref Cl) (some dd) ob) (hf : ∃ vs, ob.data = .fields vs) :
    CallR (X.suite p ((p, ob) :: l)) (.builtin "isinstance") (fun xs H Q => (∃ fs, H dd = some (.xd fs)) ∧ rIsX X.K Cl p xs H Q) := by
  intro pn s st H xs us Q I r h
  obtain ⟨⟨fs, hx⟩, c, u, b, rfl, hu, e, q⟩ := h
  obtain ⟨u1, u2, rfl, r1, r2⟩ := vals2 r
  cases r1
  have e2 := hu _ r2
  subst e2
  obtain ⟨hget, _⟩ := I.pin (p, ob) (List.mem_append.mpr (.inl List.mem_cons_self))
  obtain ⟨vs, hv⟩ := hf
  obtain ⟨mA, ⟨od, es, ep, ho, hd, _⟩, _⟩ := (show ObjOk X.prog X.w H s.heap dd (.xd fs) from I.hok dd _ hx)
  have J : PySem.W.InstAt s.heap p ob Cl (some od) := by
    refine ⟨hget, hz.1, by unfold PySem.W.notCls; rw [hv] <;> rfl, ?_⟩
    rw [hz.2]
    exact ho
  exact PySem.W.kia_one (PySem.W.kit_err T) I.kIn J e (fun z => nomatch z) fun tk => ⟨.bl b, H, I.kept (t' := tk) fun _ _ z => z, rfl, q⟩
end L2
set_option maxHeartbeats 2000000
namespace AL
open PySem L2 Evl
section
variable {X : Cx} {S0 : Hp} {a b c e o : Expr} {es : List Expr} {fa fb fc fo fe fi : Ab} {fs fr : AbA} {pos p1 p2 : Pos} {x nm : Str}
/-- what stands in a suite that holds the error p, of the class C, with its dict at dd -/
structure InSuite (X : Cx) (S0 : Hp) (p C dd : Addr) (ob : Obj) (l : List (Addr × Obj)) (fs : List (Str × D)) : Prop where
  z : Zc (.ref C) (some dd) ob
  f : ∃ vs, ob.data = .fields vs
  d : ∃ gs, S0 dd = some (.xd gs) ∧ DenF X.K S0 fs gs
theorem InSuite.at {p C dd : Addr} {ob : Obj} {l : List (Addr × Obj)} {fs : List (Str × D)} (h : InSuite X S0 p C dd ob l fs) {m : Mu} {H : Hp} (e : Ex S0 (R m H)) : ∃ gs, H dd = some (.xd gs) ∧ DenF X.K (R m H) fs gs := by
  obtain ⟨gs, h1, h2⟩ := h.d
  exact ⟨gs, (R_of (e dd _ h1)).2, DenF.mono e _ _ h2⟩
/-- e.f -/
def aXf (p : Addr) (fs : List (Str × D)) (f : Str) (fo : Ab) : Ab := fun g m P => fo g m fun x m1 => match x with
  | .box q => q = p ∧ match fs.lookup f with
    | some d => P d m1
    | none => False
  | _ => False
theorem ae_xf {p C dd : Addr} {ob : Obj} {l : List (Addr × Obj)} {ff : List (Str × D)} (I : InSuite X S0 p C dd ob l ff) (T : XfC X.K C) (hno : PySem.W.findIn X.K (.ref C) nm = some none) (ho : AE (X.suite p ((p, ob) :: l)) S0 o fo)
    (hb : attributeBase o nm X.env (eval o X.env) = eval o X.env := by rfl) : AE (X.suite p ((p, ob) :: l)) S0 (.Attribute o nm pos) (aXf p ff nm fo) := by
  obtain ⟨to, po, qo⟩ := ho.ex
  refine ⟨_, pe_xf T hno I.z I.f po hb, fun g m P h st H rp e0 en Q q => qo g m _ h st H rp e0 en _ fun v H1 y m1 h1 q1 d1 => ?_⟩
  cases y <;> first | exact (show False from h1).elim | skip
  cases d1
  obtain ⟨rfl, h1⟩ := h1
  obtain ⟨gs, hd, df⟩ := I.at (e0.trans q1.2)
  have h1 : (match ff.lookup nm with
    | some d => P d m1
    | none => False) := h1
  cases lk : ff.lookup nm with
  | none =>
    rw [lk] at h1
    exact h1.elim
  | some d =>
    rw [lk] at h1
    obtain ⟨w, hw, dw⟩ := df.look lk
    exact ⟨rfl, rfl, dd, gs, w, rfl, hd, hw, q w H1 d m1 h1 q1 dw⟩
/-- isinstance(e, C2) -/
def fIsX (p C2 : Addr) (b : Bool) : List D → Mu → PD → Prop := fun xs m P => match xs with
  | [.box q, .box r] => q = p ∧ r = C2 ∧ P (.bl b) m
  | _ => False
theorem ae_isX {p C C2 dd : Addr} {ob : Obj} {l : List (Addr × Obj)} {ff : List (Str × D)} {b : Bool} {q : Pos} (I : InSuite X S0 p C dd ob l ff) (T : PySem.W.ErC X.K C) (hk : PySem.W.kitOne X.K (.ref C) (.ref C2) = some b) (hm : X.mg "isinstance" = none) (ha : AA (X.suite p ((p, ob) :: l)) S0 (e :: es) fs)
    (hg : Gl X "isinstance" := by rfl) (he : starEach (e :: es) X.env = (false, eval e X.env) :: starEach es X.env := by rfl) (hpl : (backTo pos (starEach es X.env)).any (·.1) = false := by rfl) :
    AE (X.suite p ((p, ob) :: l)) S0 (.Call (.Name "isinstance" q) (e :: es) [] pos) (aCa (fIsX p C2 b) fs) := by
  obtain ⟨t, pt, s⟩ := ha.ex
  refine ⟨_, pe_callB (call_isX T I.z I.f) hg hm (by decide +kernel) pt (by decide) (by decide) he hpl, fun g m P h st H rp e0 en Q q => s g m _ h st H rp e0 en _ fun vs H1 ds m1 h1 q1 d1 => ?_⟩
  match ds, h1 with
  | [.box q', .box r'], h2 =>
    obtain ⟨rfl, rfl, h3⟩ := h2
    obtain ⟨v, w, rfl, dv, dw⟩ := den2 d1
    cases dv
    cases dw
    obtain ⟨gs, hd, _⟩ := I.at (e0.trans q1.2)
    exact ⟨⟨gs, hd⟩, .ref r', .ref r', b, rfl, fun z hz => hz, hk, q _ H1 _ m1 h3 q1 rfl⟩
/-- a suite, whatever error it holds -/
theorem suite_all {su : List Stmt} {C : Addr} {s : Addr → List (Str × D) → AbS} (h : ∀ (p dd : Addr) (ob : Obj) (l : List (Addr × Obj)) (S0 : Hp) (fs : List (Str × D)), InSuite X S0 p C dd ob l fs → AB (X.suite p ((p, ob) :: l)) S0 su (s p fs)) :
    ∃ tsu : Addr → Value → Option Addr → TS, (∀ (p : Addr) (ob : Obj) (cls : Value) (dd : Option Addr) (l : List (Addr × Obj)), Zc cls dd ob → (∃ vs, ob.data = .fields vs) → PSs (X.suite p ((p, ob) :: l)) su (tsu p cls dd)) ∧
      ∀ (p dd : Addr) (fs : List (Str × D)) (gs : List (Str × V)) (S0 : Hp) (E : AEn) (g : Sl) (m : Mu), S0 dd = some (.xd gs) → DenF X.K S0 fs gs → s p fs E g m → WS X.K S0 (tsu p (.ref C) (some dd)) E g m := by
  refine ⟨fun p cls od Dn st H => ∀ (ob : Obj) (l : List (Addr × Obj)), Zc cls od ob → (∃ vs, ob.data = .fields vs) → ∃ (dd : Addr) (S0 : Hp) (fs : List (Str × D)) (I : InSuite X S0 p C dd ob l fs), Classical.choose (h p dd ob l S0 fs I).ex Dn st H,
    fun p ob cls od l hz hf => ⟨fun pins s0 st H D I0 hw => ?_⟩, fun p dd fs gs S0 E g m hd df hs st H S1 rp e0 e1 en D ok ob l hz hf => ?_⟩
  · obtain ⟨dd, S0, fs, I, ht⟩ := hw ob l hz hf
    exact (Classical.choose_spec (h p dd ob l S0 fs I).ex).1.run pins s0 st H D I0 ht
  · have I : InSuite X S0 p C dd ob l fs := ⟨hz, hf, gs, hd, df⟩
    exact ⟨dd, S0, fs, I, (Classical.choose_spec (h p dd ob l S0 fs I).ex).2 E g m hs st H S1 rp e0 e1 en D ok⟩
/-! ### try: body / except C1 as e: suite that returns / .. -/
theorem takes_len {W W' : L2.WX} (t : Takes X W) (h : ∀ cls d st H, st.length = X.N.length → W' cls d st H → W cls d st H) : Takes X W' := by
  intro u s' hx
  obtain ⟨q, B, sI, pins, st, H, cls, d, h1, I, h2, h3, h4, h5, h6, h7, w⟩ := hx
  exact t u s' ⟨q, B, sI, pins, st, H, cls, d, h1, I, h2, h3, h4, h5, h6, h7, h cls d st H I.len w⟩
/-- the slots within a suite: the error's alone is known -/
def onlyE (n j : Nat) (p : Addr) : Sl := put (List.replicate n none) j (some (.box p))
/-- one clause: its class, what its suite does -/
structure Cl1 where
  C : Addr
  j : Nat
  s : Addr → List (Str × D) → AbS
def wTry (K : PySem.W.Frag) (n : Nat) (E : AEn) (Wout : PX) : List Cl1 → PX
  | [] => Wout
  | k :: r => fun C fs m => (C = k.C ∧ ∀ p, k.s p fs ⟨fun _ _ => False, E.rt, fun _ _ => False, fun _ _ => False⟩ (onlyE n k.j p) m) ∨ (PySem.W.exmOne K (.ref C) (.ref k.C) = some false ∧ wTry K n E Wout r C fs m)
def aTry (K : PySem.W.Frag) (n : Nat) (Wout : PX) (l : List Cl1) (sb : PX → AbS) : AbS := fun E g m => sb (wTry K n E Wout l) { nx := fun g' m' => E.nx g' m', rt := E.rt, bk := E.bk, ct := E.ct } g m
/-- the clauses of the text, each with its suite read -/
inductive ClOk (X : Cx) : List ExceptHandler → List Cl1 → Prop
  | nil : ClOk X [] []
  | cons {k : Cl1} {nx ne : Str} {su : List Stmt} {st0 : Stmt} {q1 q2 : Pos} {hds : List ExceptHandler} {l : List Cl1} (hc : Names X nx (.ref k.C)) (hj : X.N[k.j]? = some ne) (hl : X.env.kindOf ne = some .local) (me : PySem.W.exmOne X.K (.ref k.C) (.ref k.C) = some true)
      (hsu : ∀ (p dd : Addr) (ob : Obj) (l : List (Addr × Obj)) (S0 : Hp) (fs : List (Str × D)), InSuite X S0 p k.C dd ob l fs → AB (X.suite p ((p, ob) :: l)) S0 (st0 :: su) (k.s p fs)) (r : ClOk X hds l) :
      ClOk X (.ExceptHandler (some (.Name nx q1)) (some ne) (st0 :: su) q2 :: hds) (k :: l)
/-- what is to be shown at the clauses, and that it is enough -/
theorem clauses {Wout : PX} (hs : X.stack = X.env :: X.outer) (hf : X.env.frame = some X.env.locals) (hN : X.N.Nodup) (tk : Takes X (fun cls d _ H => XW X.K S0 Wout cls d H)) {hds : List ExceptHandler} {l : List Cl1} (h : ClOk X hds l) :
    ∃ Wc : Ends → L2.WX, (∀ (pn : List (Addr × Obj)) (D : Ends) (p : Addr) (B : Heap) (sI s : Shared) (st : L2.St) (H : Hp) (cls : Value) (dd : Option Addr), Onway X pn p B sI st H cls dd s → Wc D cls dd st H → wpAny (model X.prog X.w) X.A (handleBy (.ref p) X.env hds) (SP X pn D) X.xe s) ∧
      ∀ (E : AEn) (S1 : Hp) (D : Ends) (cls : Value) (d : Option Addr) (st : L2.St) (H : Hp), Ex S0 S1 → EndOk X.K S1 E D → st.length = X.N.length → XW X.K S1 (wTry X.K X.N.length E Wout l) cls d H → Wc D cls d st H := by
  induction h with
  | nil => exact ⟨fun _ cls d _ H => XW X.K S0 Wout cls d H, fun pn D p B sI s st H cls dd w hw => hb_end hs hf tk w hw, fun E S1 D cls d st H e0 ok hl hx => xw_mono e0 hx⟩
  | @cons k nx ne su st0 q1 q2 hds l hc hj hl me hsu r ih =>
    obtain ⟨Wr, r1, r2⟩ := ih
    obtain ⟨tsu, t1, t2⟩ := suite_all hsu
    refine ⟨fun D => wNext X.K (.ref k.C) k.j tsu (Wr D) D, fun pn D p B sI s st H cls dd w hw => hb_step hf hN hj hl hc t1 w hw fun z => r1 pn D p B sI s st H cls dd w z, fun E S1 D cls d st H e0 ok hlen hx => ?_⟩
    obtain ⟨C, dd, fs, gs, m, rfl, rfl, hw, rp, e1, md, hd, df⟩ := hx
    rcases hw with ⟨rfl, hw⟩ | ⟨hn, hw⟩
    · refine ⟨true, me, ⟨fun z => (by cases z), fun _ p hp => ?_⟩⟩
      have hR : R m H dd = some (.xd gs) := by rw [R_none md]; exact hd
      have blank : ∀ (us : L2.St), Env X.K (R m H) (List.replicate us.length none) us := fun us => by
        induction us with
        | nil => rfl
        | cons u us ihu => exact ⟨u, us, rfl, fun d q => (by cases q), ihu⟩
      have en : Env X.K (R m H) (onlyE X.N.length k.j p) (st.set k.j (some (.ref p))) := by
        unfold onlyE
        rw [← hlen]
        exact (blank st).put rfl
      refine t2 p dd fs gs (R m H) _ _ m hR df (hw p) _ H (R m H) rp (Ex.refl _) (Ex.refl _) en _ ⟨fun _ _ _ _ z => z.elim, fun d' m' v' H' z r' x' dv' => ok.rt d' m' v' H' z r' (e1.trans x') dv', fun _ _ _ _ z => z.elim, fun _ _ _ _ z => z.elim⟩
    · exact ⟨false, hn, fun _ => r2 E S1 D (.ref C) (some dd) st H e0 ok hlen ⟨C, dd, fs, gs, m, rfl, rfl, hw, rp, e1, md, hd, df⟩, fun z => (by cases z)⟩
theorem as_try {Wout : PX} {hd0 : ExceptHandler} {hds : List ExceptHandler} {l : List Cl1} {body : List Stmt} {sb : PX → AbS} (hs : X.stack = X.env :: X.outer) (hf : X.env.frame = some X.env.locals) (hN : X.N.Nodup) (tk : Takes X (fun cls d _ H => XW X.K S0 Wout cls d H)) (h : ClOk X (hd0 :: hds) l)
    (hb : ∀ (l : List (Addr × Obj)) (xe : Value → Shared → Prop) (S : Hp) (W : PX), Takes (X.tr l xe) (fun cls d _ H => XW X.K S W cls d H) → PassesOwn (model X.prog X.w) X.A X.env xe → AB (X.tr l xe) S body (sb W)) : AS X S0 (.Try body (hd0 :: hds) [] [] pos) (aTry X.K X.N.length Wout l sb) := by
  obtain ⟨Wc, c1, c2⟩ := clauses hs hf hN tk h
  have body_ok : ∀ (W : L2.WX) (l : List (Addr × Obj)) (xe : Value → Shared → Prop), Takes (X.tr l xe) W → PassesOwn (model X.prog X.w) X.A X.env xe →
      PSs (X.tr l xe) body (fun D st H => ∀ (l : List (Addr × Obj)) (xe : Value → Shared → Prop) (t : Takes (X.tr l xe) W) (po : PassesOwn (model X.prog X.w) X.A X.env xe), ∃ (S : Hp) (Wp : PX) (hw : ∀ cls d st' H', st'.length = X.N.length → XW X.K S Wp cls d H' → W cls d st' H'), Classical.choose (hb l xe S Wp (takes_len t hw) po).ex D st H) := by
    intro W l xe t po
    constructor
    intro pins s st H D I hw
    obtain ⟨S, Wp, hw1, ht⟩ := hw l xe t po
    exact (Classical.choose_spec (hb l xe S Wp (takes_len t hw1) po).ex).1.run pins s st H D I ht
  refine ⟨_, ps_try_by hs hf body_ok c1, fun E g m h st H S1 rp e0 e1 en D ok => ?_⟩
  intro l' xe t po
  have hw : ∀ cls d st' H', st'.length = X.N.length → XW X.K S1 (wTry X.K X.N.length E Wout l) cls d H' → Wc D cls d st' H' := fun cls d st' H' hl hx => c2 E S1 D cls d st' H' e0 ok hl hx
  exact ⟨S1, wTry X.K X.N.length E Wout l, hw, (Classical.choose_spec (hb l' xe S1 _ (takes_len t hw) po).ex).2 _ g m h st H S1 rp (Ex.refl _) e1 en D ok⟩
end
end AL
set_option maxHeartbeats 2000000
namespace AL
open PySem L2 Evl
/-- a name of the module that holds data -/
structure Glo (K : PySem.W.Frag) (mg : Str → Option Value) (x : Str) (d : D) : Prop where
  ex : ∃ (u : Value) (v : V), mg x = some u ∧ RelV v u ∧ ∀ S, Den K S d v
/-- no name of the module hides these -/
structure Bl (mg : Str → Option Value) : Prop where
  len : mg "len" = none
  int : mg "int" = none
  abs : mg "abs" = none
  max : mg "max" = none
  min : mg "min" = none
  bool : mg "bool" = none
  str : mg "str" = none
  tuple : mg "tuple" = none
  list : mg "list" = none
  range : mg "range" = none
  isi : mg "isinstance" = none
  all : mg "all" = none
  any : mg "any" = none
  ord : mg "ord" = none
  enumerate : mg "enumerate" = none
  sorted : mg "sorted" = none
  set : mg "set" = none
  zip : mg "zip" = none
  sum : mg "sum" = none
  reversed : mg "reversed" = none
  repr : mg "repr" = none
def onlyK {α : Type} : List α → List α → List α
  | [], ws => ws
  | _ :: _, _ => []
/-- a def that callers use: it keeps sp -/
structure Cal (P : Program) (w : World) (K : PySem.W.Frag) (mg : Str → Option Value) (base : Heap) (k : Nat) (x : Str) (ps : List Str) (sp : ASp) : Prop where
  ex : ∃ (f : Addr) (fd : FuncData), FnOk P w K mg base (L2.CX P w) k f fd ps (lift K sp) ∧ mg x = some (.ref f) ∧ PySem.W.keepIn K (.ref f) = true ∧ Binds K fd ps [] ∧ KBinds K fd ps ps onlyK onlyK
section
variable {X : Cx} {S0 : Hp} {a b c e o elt : Expr} {es ifs : List Expr} {kws : List Keyword} {fa fb fc fo fe fi : Ab} {ft fu : AbT} {fs fr : AbA} {pos apos p : Pos} {k : Nat} {sp : ASp} {x : Str} {K : PySem.W.Frag} {ps : List Str} {scope : Scope} {own : List (Str × Nat)}
theorem ae_glo {d : D} (G : Glo X.K X.mg x d) (hg : Gl X x := by rfl) (hd : (x == ("__debug__" : Str)) = false := by decide) : AE X S0 (.Name x pos) (aC d) := by
  obtain ⟨u, v, h1, h2, h3⟩ := G.ex
  exact ae_const d (pe_glob hg h1 h2 hd) h3
theorem ae_ty {x : Str} (T : String) (hm : X.mg x = none) (hv : bootBuiltins x = some (.type T)) (hg : Gl X x := by rfl) (hn : x ≠ "__name__" := by decide) (hd : (x == ("__debug__" : Str)) = false := by decide) : AE X S0 (.Name x pos) (aC (.ty T)) :=
  ae_const (.ty T) (pe_bltn (v := .ty T) hg hm hv rfl hn hd) fun _ => rfl
theorem ae_i {n : Int} {k : Nat} : AE X S0 (.Constant (.int n) k pos) (aC (.int n)) := ae_const _ pe_int fun _ => rfl
theorem ae_s {z : Str} {k : Nat} : AE X S0 (.Constant (.str z) k pos) (aC (.str z)) := ae_const _ pe_str fun _ => rfl
theorem ae_b {z : Bool} {k : Nat} : AE X S0 (.Constant (.bool z) k pos) (aC (.bl z)) := ae_const _ pe_bl fun _ => rfl
theorem ae_n {k : Nat} : AE X S0 (.Constant .none k pos) (aC .non) := ae_const _ pe_non fun _ => rfl
theorem at_b {z : Bool} {k : Nat} : AT X S0 (.Constant (.bool z) k pos) (aTest (aC (.bl z))) := by
  refine ⟨_, pt_val pe_bl, fun g m P h st H rp e0 en Q q => ?_⟩
  exact ⟨z, rfl, q z H m h (Po.refl rp)⟩
def fPow := fI2 (fun i j => .int (i ^ j.toNat)) CPow
theorem ae_pow (ha : AE X S0 a fa) (hb : AE X S0 b fb) : AE X S0 (.BinOp a .Pow b pos) (aOp fPow fa fb) := ae_op op_pow (opA_I fun _ _ _ => rfl) ha hb
def fAbs : List D → Mu → PD → Prop := fun xs m P => match xs with
  | [.int i] => P (.int (if i < 0 then -i else i)) m
  | _ => False
theorem caA_abs : CaA K (fun xs H Q => ∃ i, xs = [V.int i] ∧ Q (.int (if i < 0 then -i else i)) H) fAbs := fun xs m P h vs H rp dl Q q => by
  match xs, h with
  | [.int i], h =>
    obtain ⟨v, rfl, dv⟩ := den1 dl
    cases dv
    exact ⟨i, rfl, q _ H _ m h (Po.refl rp) rfl⟩
theorem ae_abs {p : Pos} (hm : X.mg "abs" = none) (ha : AA X S0 (e :: es) fs) (hg : Gl X "abs" := by rfl) (he : starEach (e :: es) X.env = (false, eval e X.env) :: starEach es X.env := by rfl) (hpl : (backTo pos (starEach es X.env)).any (·.1) = false := by rfl) :
    AE X S0 (.Call (.Name "abs" p) (e :: es) [] pos) (aCa fAbs fs) := ae_cb call_abs caA_abs hg hm (by decide +kernel) ha (by decide) (by decide) he hpl
/-- xs[::-1], a list that may change -/
def aRevB (fa : Ab) : Ab := fun g m P => fa g m fun x m1 => match lstOf m1 x with
  | some ds => ∀ p, m1 p = none → P (.box p) (mset m1 p (.lst ds.reverse))
  | none => False
theorem ae_revB {p1 p2 p3 p4 : Pos} {kk : Nat} (ha : AE X S0 a fa) : AE X S0 (.Subscript a (.Slice none none (some (.UnaryOp .USub (.Constant (.int 1) kk p1) p2)) p3) p4) (aRevB fa) := by
  obtain ⟨t, pt, s⟩ := ha.ex
  refine ⟨_, pe_revL pt, fun g m P h st H rp e0 en Q q => s g m _ h st H rp e0 en _ fun v H1 d m1 h1 p1 d1 => ?_⟩
  cases e : lstOf m1 d with
  | none =>
    rw [e] at h1
    exact h1.elim
  | some ds =>
    rw [e] at h1
    obtain ⟨r, vs, rfl, hv, dv⟩ := lst_den p1.1 d1 e
    refine ⟨r, vs, rfl, sq_of hv, fun l hl => ?_⟩
    exact q _ _ (.box l) _ (h1 l (p1.1.fresh hl)) (p1.trans (Po.newL p1.1 hl dv.rev)) rfl
/-! ### calls -/
theorem ae_cal (G : Cal X.prog X.w X.K X.mg X.base k x ps sp) (hr : Room k X.A) (ha : AA X S0 (e :: es) fs) (hg : Gl X x := by rfl) (hdb : (x == ("__debug__" : Str)) = false := by decide)
    (he : starEach (e :: es) X.env = (false, eval e X.env) :: starEach es X.env := by rfl) (hpl : (backTo pos (starEach es X.env)).any (·.1) = false := by rfl) : AE X S0 (.Call (.Name x p) (e :: es) [] pos) (aCall sp fs) := by
  obtain ⟨f, fd, F, hm, hk, hb, _⟩ := G.ex
  exact ae_call F hr hm hk hb ha hg hdb he hpl
theorem ae_calX {W : PX} (tk : Takes X (fun cls d _ H' => XW X.K S0 W cls d H')) (G : Cal X.prog X.w X.K X.mg X.base k x ps sp) (hr : Room k X.A) (ha : AA X S0 (e :: es) fs) (hg : Gl X x := by rfl) (hdb : (x == ("__debug__" : Str)) = false := by decide)
    (he : starEach (e :: es) X.env = (false, eval e X.env) :: starEach es X.env := by rfl) (hpl : (backTo pos (starEach es X.env)).any (·.1) = false := by rfl) : AE X S0 (.Call (.Name x p) (e :: es) [] pos) (aCallX W sp fs) := by
  obtain ⟨f, fd, F, hm, hk, hb, _⟩ := G.ex
  exact ae_callX tk F hr hm hk hb ha hg hdb he hpl
/-- f(x=e): all by keywords in the parameters' order -/
theorem ae_calK (G : Cal X.prog X.w X.K X.mg X.base k x ps sp) (hr : Room k X.A) (ha : AK X S0 kws fs)
    (hg : Gl X x := by rfl) (hdb : (x == ("__debug__" : Str)) = false := by decide) (hall : (backToKw pos (keywordEach kws X.env)).all (·.1.isSome) = true := by rfl) (hks : (backToKw pos (keywordEach kws X.env)).filterMap (·.1) = ps := by rfl)
    (hpl : ((backTo pos (starEach [] X.env)).any (·.1) || (backToKw pos (keywordEach kws X.env)).any (·.1.isNone)) = false := by rfl) : AE X S0 (.Call (.Name x p) [] kws pos) (aCall sp fs) := by
  obtain ⟨f, fd, F, hm, hk, _, hb⟩ := G.ex
  obtain ⟨t, pt, s⟩ := ha.ex
  refine ⟨fun st H Q => t st H fun vs H1 => lift X.K sp vs H1 Q E0, ⟨fun pins s0 st H Q I h => ?_⟩, fun g m P h st H rp e0 en Q q => ?_⟩
  · refine wpAny_Call_Name_kw (ld_glob I hg hm ?_ hdb)
    refine PySem.W.callWith_KW0 (h₀ := X.base) I.ok.mod.kin hk hall ?_ hpl
    refine thn (pt.run pos pins s0 st H _ I h) ?_
    rintro ws s2 ⟨zs, H2, I2, rz, q2⟩
    refine ⟨I2.kIn, ?_⟩
    rw [hks]
    exact run_fnk F hr hb passL I2 .nil rz q2
  · refine s g m _ h st H rp e0 en _ fun vs H1 ds m1 h1 p1 d1 => ?_
    exact ⟨ds, m1, P, fun _ _ _ => False, d1, p1.1, h1, fun v H' d m' hp po dv => q v H' d m' hp (p1.trans po) dv, fun cls d H' z => noW z⟩
/-! ### y = [e for ..], y no cell -/
theorem set_sound {te : TE} {i : Nat} (qe : ∀ g m P, fe g m P → WX X.K S0 te g m P) : ∀ E g m, aSet i fe E g m → WS X.K S0 (tAsg te (gName i)) E g m := fun E g m h st H S1 rp e0 e1 en D ok =>
  qe g m _ h st H rp (e0.trans e1) en _ fun v H1 d m1 h1 p1 d1 => ok.nx _ m1 _ H1 h1 p1.1 (e1.trans p1.2) ((en.mono p1.2).put d1)
theorem as_setLc (i : Nat) {y : Str} {py spos : Pos} (fro : Bool) {tg : Expr} {k : AbG} (hc : X.calm = true) (hN : X.N.Nodup) (ok : BlkOk X.N X.env.scope scope own) (ha : AE X S0 a fa) (hg : ACg X S0 scope (own.map (·.2)) tg k) (ht : ATs X S0 scope ifs ft) (he : AllB X scope fun Y => AE Y S0 elt fe)
    (hsw : swapsWith (.ListComp elt [⟨tg, a, ifs, 0⟩] scope pos) (some (.Name y py)) spos.line X.env = pure true) (hy : X.N[i]? = some y := by rfl) (hyl : X.env.scope.names.lookup y = some .local := by rfl)
    (hs : ∀ x, foldedSetIterable a X.env x = pure x := by intro _; rfl) : AS X S0 (.Assign [.Name y py] (.ListComp elt [⟨tg, a, ifs, 0⟩] scope pos) spos) (aSet i (aLc fro fa (own.map (·.2)) k ft fe)) := by
  obtain ⟨ta, pa, qa⟩ := ha.ex
  obtain ⟨tg', pg, qg⟩ := hg.ex
  obtain ⟨tt, pt, qt⟩ := ht.ex
  obtain ⟨te, pe, qe⟩ := all_ae he
  exact ⟨_, ps_setLc hc hN hy hyl hsw (pi_sq pa) ok pg pt pe hs, set_sound (lc_sound fro qa qg qt qe)⟩
theorem as_setLcR (i : Nat) {y : Str} {py spos : Pos} (fro : Bool) {tg : Expr} {k : AbG} {pr p2 : Pos} (hc : X.calm = true) (hN : X.N.Nodup) (ok : BlkOk X.N X.env.scope scope own) (hm : X.mg "range" = none) (ha : AA X S0 [a] fs) (hg : ACg X S0 scope (own.map (·.2)) tg k) (ht : ATs X S0 scope ifs ft) (he : AllB X scope fun Y => AE Y S0 elt fe)
    (hsw : swapsWith (.ListComp elt [⟨tg, .Call (.Name "range" pr) [a] [] p2, ifs, 0⟩] scope pos) (some (.Name y py)) spos.line X.env = pure true) (hy : X.N[i]? = some y := by rfl) (hyl : X.env.scope.names.lookup y = some .local := by rfl)
    (hgl : Gl X "range" := by rfl) (hs1 : starEach [a] X.env = [(false, eval a X.env)] := by rfl) (hs : ∀ x, foldedSetIterable (.Call (.Name "range" pr) [a] [] p2) X.env x = pure x := by intro _; rfl) :
    AS X S0 (.Assign [.Name y py] (.ListComp elt [⟨tg, .Call (.Name "range" pr) [a] [] p2, ifs, 0⟩] scope pos) spos) (aSet i (aLcR fro fs (own.map (·.2)) k ft fe)) := by
  obtain ⟨ta, pa, qa⟩ := ha.ex
  obtain ⟨tg', pg, qg⟩ := hg.ex
  obtain ⟨tt, pt, qt⟩ := ht.ex
  obtain ⟨te, pe, qe⟩ := all_ae he
  exact ⟨_, ps_setLc hc hN hy hyl hsw (pi_range1 hgl hm pa hs1) ok pg pt pe hs, set_sound (lcR_sound fro qa qg qt qe)⟩
end
end AL
set_option maxHeartbeats 2000000
namespace AL
open PySem L2 Evl
/-- a method that callers use -/
structure CalM (P : Program) (w : World) (K : PySem.W.Frag) (mg : Str → Option Value) (base : Heap) (k : Nat) (C : Addr) (m : Str) (ps : List Str) (sp : ASp) : Prop where
  ex : ∃ (f : Addr) (fd : FuncData), FnOk P w K mg base (L2.CX P w) k f fd ps (lift K sp) ∧ Meth K C m f ∧ Binds K fd ps []
/-- an own class that is made by its __init__ -/
structure CalI (P : Program) (w : World) (K : PySem.W.Frag) (mg : Str → Option Value) (base : Heap) (k : Nat) (x : Str) (C : Addr) (ps : List Str) (sp : ASp) : Prop where
  ex : ∃ (f : Addr) (fd : FuncData), FnOk P w K mg base (L2.CX P w) k f fd ps (lift K sp) ∧ Mk K C f ∧ mg x = some (.ref C) ∧ Binds K fd ps []
  non : ∀ ds m Q W, sp ds m Q W → sp ds m (fun d m' => d = .non ∧ Q d m') W
/-- an own class of errors with two fields -/
structure ErrC (P : Program) (w : World) (K : PySem.W.Frag) (mg : Str → Option Value) (base : Heap) (x : Str) (C : Addr) (n1 n2 : Str) : Prop where
  T : OexC K C
  g : mg x = some (.ref C)
  ex : ∃ (f : Addr) (fd : FuncData), PySem.W.findIn K (.ref C) "__init__" = some (some (.ref f)) ∧ PySem.W.typeIn K (.ref f) = some (.type "function") ∧ FnOk P w K mg base (L2.CX P w) 1 f fd ["self", n1, n2] (spI2 n1 n2 C) ∧ Binds K fd ["self", n1, n2] []
/-- a class of errors in a clause -/
structure HdC (K : PySem.W.Frag) (mg : Str → Option Value) (x : Str) (C : Addr) : Prop where
  mg : mg x = some (.ref C)
  me : PySem.W.exmOne K (.ref C) (.ref C) = some true
section
variable {X : Cx} {S0 : Hp} {a b c e o elt : Expr} {es ifs : List Expr} {fa fb fc fo fe fi : Ab} {ft fu : AbT} {fs fr : AbA} {pos apos p : Pos} {k : Nat} {sp : ASp} {x nm n1 n2 : Str} {K : PySem.W.Frag} {ps : List Str} {C : Addr}
def fIsN (neg : Bool) : D → D → Mu → PD → Prop := fun x y m P => match y with
  | .non => P (.bl (if neg then !(decide (isN x = some true)) else decide (isN x = some true))) m
  | _ => False
theorem at_isN (ha : AE X S0 a fa) (hb : AE X S0 b fb) (hm : behindInMarks .Is b = false := by exact nomark _) : AT X S0 (.Compare a [.Is] [b] p) (aTest (aOp (fIsN false) fa fb)) :=
  at_cmp op_isN (fun x y m P h v w H rp d1 d2 Q q => by
    cases y <;> first | exact (show False from h).elim | skip
    cases d2
    refine ⟨rfl, ?_⟩
    rw [isN_ok d1]
    exact q _ H _ m h (Po.refl rp) rfl) hm ha hb
theorem at_notN (ha : AE X S0 a fa) (hb : AE X S0 b fb) (hm : behindInMarks .IsNot b = false := by exact nomark _) : AT X S0 (.Compare a [.IsNot] [b] p) (aTest (aOp (fIsN true) fa fb)) :=
  at_cmp op_notN (fun x y m P h v w H rp d1 d2 Q q => by
    cases y <;> first | exact (show False from h).elim | skip
    cases d2
    refine ⟨rfl, ?_⟩
    rw [isN_ok d1]
    exact q _ H _ m h (Po.refl rp) rfl) hm ha hb
theorem ae_met0 {pl : Sem Bool} (c : Cls X.K C) (G : CalM X.prog X.w X.K X.mg X.base k C nm ps sp) (hr : Room k X.A) (ho : AE X S0 o fo)
    (ht : eval (.Call (.Attribute o nm apos) [] [] pos) X.env = (do
      let ov ← eval o X.env
      standAt apos.atName
      let (g1, first) ← holding [ov] (getMethod ov nm pl)
      callWith pos g1 first (backTo pos (starEach [] X.env)) (backToKw pos (keywordEach [] X.env))) := by rfl) : AE X S0 (.Call (.Attribute o nm apos) [] [] pos) (aMeth C nm (fun _ _ _ => False) sp fo aNil) := by
  obtain ⟨f, fd, F, hm, hb⟩ := G.ex
  exact ae_meth0 (E := E0) (fun _ _ _ _ _ z => (noW z).elim) passL c hm F hr hb ho ht
theorem ae_met0X {pl : Sem Bool} {W : PX} (tk : Takes X (fun cls d _ H' => XW X.K S0 W cls d H')) (c : Cls X.K C) (G : CalM X.prog X.w X.K X.mg X.base k C nm ps sp) (hr : Room k X.A) (ho : AE X S0 o fo)
    (ht : eval (.Call (.Attribute o nm apos) [] [] pos) X.env = (do
      let ov ← eval o X.env
      standAt apos.atName
      let (g1, first) ← holding [ov] (getMethod ov nm pl)
      callWith pos g1 first (backTo pos (starEach [] X.env)) (backToKw pos (keywordEach [] X.env))) := by rfl) : AE X S0 (.Call (.Attribute o nm apos) [] [] pos) (aMeth C nm W sp fo aNil) := by
  obtain ⟨f, fd, F, hm, hb⟩ := G.ex
  exact ae_meth0 (E := fun cls d H' => XW X.K S0 W cls d H') (fun _ _ _ _ e z => xw_mono e z) (passes_call tk fun _ _ _ _ z => z) c hm F hr hb ho ht
theorem ae_met {pl : Sem Bool} (c : Cls X.K C) (G : CalM X.prog X.w X.K X.mg X.base k C nm ps sp) (hr : Room k X.A) (ho : AE X S0 o fo) (ha : AA X S0 (e :: es) fs)
    (hst : starEach (e :: es) X.env = (false, eval e X.env) :: starEach es X.env := by rfl) (hpl : (backTo pos (starEach es X.env)).any (·.1) = false := by rfl)
    (ht : eval (.Call (.Attribute o nm apos) (e :: es) [] pos) X.env = (do
      let ov ← eval o X.env
      standAt apos.atName
      let (g1, first) ← holding [ov] (getMethod ov nm pl)
      callWith pos g1 first (backTo pos (starEach (e :: es) X.env)) (backToKw pos (keywordEach [] X.env))) := by rfl) : AE X S0 (.Call (.Attribute o nm apos) (e :: es) [] pos) (aMeth C nm (fun _ _ _ => False) sp fo fs) := by
  obtain ⟨f, fd, F, hm, hb⟩ := G.ex
  exact ae_meth (E := E0) (fun _ _ _ _ _ z => (noW z).elim) passL c hm F hr hb ho ha hst hpl ht
theorem ae_metX {pl : Sem Bool} {W : PX} (tk : Takes X (fun cls d _ H' => XW X.K S0 W cls d H')) (c : Cls X.K C) (G : CalM X.prog X.w X.K X.mg X.base k C nm ps sp) (hr : Room k X.A) (ho : AE X S0 o fo) (ha : AA X S0 (e :: es) fs)
    (hst : starEach (e :: es) X.env = (false, eval e X.env) :: starEach es X.env := by rfl) (hpl : (backTo pos (starEach es X.env)).any (·.1) = false := by rfl)
    (ht : eval (.Call (.Attribute o nm apos) (e :: es) [] pos) X.env = (do
      let ov ← eval o X.env
      standAt apos.atName
      let (g1, first) ← holding [ov] (getMethod ov nm pl)
      callWith pos g1 first (backTo pos (starEach (e :: es) X.env)) (backToKw pos (keywordEach [] X.env))) := by rfl) : AE X S0 (.Call (.Attribute o nm apos) (e :: es) [] pos) (aMeth C nm W sp fo fs) := by
  obtain ⟨f, fd, F, hm, hb⟩ := G.ex
  exact ae_meth (E := fun cls d H' => XW X.K S0 W cls d H') (fun _ _ _ _ e z => xw_mono e z) (passes_call tk fun _ _ _ _ z => z) c hm F hr hb ho ha hst hpl ht
theorem ae_new (G : CalI X.prog X.w X.K X.mg X.base k x C ps sp) (hr : Room (k + 1) X.A) (ha : AA X S0 (e :: es) fs) (hg : Gl X x := by rfl) (hdb : (x == ("__debug__" : Str)) = false := by decide)
    (he : starEach (e :: es) X.env = (false, eval e X.env) :: starEach es X.env := by rfl) (hpl : (backTo pos (starEach es X.env)).any (·.1) = false := by rfl) : AE X S0 (.Call (.Name x p) (e :: es) [] pos) (aMake C (fun _ _ _ => False) sp fs) := by
  obtain ⟨f, fd, F, M, hm, hb⟩ := G.ex
  exact ae_make (E := E0) (fun _ _ _ _ _ z => (noW z).elim) passL M F hr hm hb G.non ha hg hdb he hpl
theorem as_rais {W : PX} {p' : Pos} (hc : X.calm = true) (tk : Takes X (fun cls d _ H' => XW X.K S0 W cls d H')) (R : ErrC X.prog X.w X.K X.mg X.base x C n1 n2) (hr : Room 2 X.A) (ha : AA X S0 (e :: es) fs) (hg : Gl X x := by rfl)
    (hdb : (x == ("__debug__" : Str)) = false := by decide) (he : starEach (e :: es) X.env = (false, eval e X.env) :: starEach es X.env := by rfl) (hpl : (backTo pos (starEach es X.env)).any (·.1) = false := by rfl) :
    AS X S0 (.Raise (some (.Call (.Name x p) (e :: es) [] pos)) none p') (aRaise C n1 n2 W fs) := by
  obtain ⟨f, fd, iC, tI, F, hb⟩ := R.ex
  exact as_raise hc tk R.T iC tI F hr hb passL R.g ha hg hdb he hpl
end
end AL
set_option maxHeartbeats 2000000
/-! what the operations say of data whose kind is known: equations for simp -/
namespace AL
open PySem L2 Evl
section
variable {m : Mu} {P : PD} {Pb : Bool → Mu → Prop} {Q : Mu → Prop} {i j : Int} {s t : Str} {ds es : List D} {d e : D} {p q : Addr} {b c : Bool} {x y : D}
theorem asT_b : asT Pb (.bl b) m = Pb b m := rfl
theorem fAdd_i : fAdd (.int i) (.int j) m P = P (.int (i + j)) m := rfl
theorem fAdd_s : fAdd (.str s) (.str t) m P = (s.length + t.length ≤ 1000000 ∧ P (.str (s ++ t)) m) := rfl
theorem fAdd_t : fAdd (.tup ds) (.tup es) m P = (ds.length + es.length ≤ 100000 ∧ P (.tup (ds ++ es)) m) := rfl
theorem fAdd_l : fAdd (.lst ds) (.lst es) m P = (ds.length + es.length ≤ 100000 ∧ P (.lst (ds ++ es)) m) := rfl
theorem fAddB_bl (h : m p = some (.lst ds)) : fAddB (.box p) (.lst es) m P = (ds.length + es.length ≤ 100000 ∧ ∀ r, m r = none → P (.box r) (mset m r (.lst (ds ++ es)))) := by
  simp only [fAddB, lstOf, h]
theorem fSub_i : fSub (.int i) (.int j) m P = P (.int (i - j)) m := by
  show (True ∧ P (.int (i - j)) m) = P (.int (i - j)) m
  rw [true_and]
theorem fLt_i : fLt (.int i) (.int j) m P = P (.bl (decide (i < j))) m := by
  show (True ∧ P (.bl (decide (i < j))) m) = _
  rw [true_and]
theorem fLe_i : fLe (.int i) (.int j) m P = P (.bl (decide (i ≤ j))) m := by
  show (True ∧ P (.bl (decide (i ≤ j))) m) = _
  rw [true_and]
theorem fGt_i : fGt (.int i) (.int j) m P = P (.bl (decide (j < i))) m := by
  show (True ∧ P (.bl (decide (j < i))) m) = _
  rw [true_and]
theorem fGe_i : fGe (.int i) (.int j) m P = P (.bl (decide (j ≤ i))) m := by
  show (True ∧ P (.bl (decide (j ≤ i))) m) = _
  rw [true_and]
theorem fMul_i : fMul (.int i) (.int j) m P = (CMul i j ∧ P (.int (i * j)) m) := rfl
theorem fMod_i : fMod (.int i) (.int j) m P = (j ≠ 0 ∧ P (.int (i.fmod j)) m) := rfl
theorem fFdiv_i : fFdiv (.int i) (.int j) m P = (CDivN i j ∧ P (.int (i.fdiv j)) m) := rfl
theorem fPow_i : fPow (.int i) (.int j) m P = (CPow i j ∧ P (.int (i ^ j.toNat)) m) := rfl
theorem fNeg_i : fNeg (.int i) m P = P (.int (-i)) m := rfl
theorem fEq_i : fEq (.int i) (.int j) m P = P (.bl (decide (i = j))) m := rfl
theorem fEq_s : fEq (.str s) (.str t) m P = P (.bl (decide (s = t))) m := rfl
theorem fEq_b : fEq (.bl b) (.bl c) m P = P (.bl (decide (b = c))) m := rfl
theorem fNe_i : fNe (.int i) (.int j) m P = P (.bl (!decide (i = j))) m := rfl
theorem fNe_s : fNe (.str s) (.str t) m P = P (.bl (!decide (s = t))) m := rfl
theorem fNe_b : fNe (.bl b) (.bl c) m P = P (.bl (!decide (b = c))) m := rfl
theorem fIn_s {k : Nat} {z : Str} : fIn (.str ⟨#[k]⟩) (.str z) m P = P (.bl (decide (k ∈ z.cps.toList))) m := by
  show (∃ c, (⟨#[k]⟩ : Str) = ⟨#[c]⟩ ∧ P (.bl (decide (c ∈ z.cps.toList))) m) = _
  apply propext
  constructor
  · rintro ⟨c, h, g⟩
    cases h
    exact g
  · intro g
    exact ⟨k, rfl, g⟩
theorem fNi_s {k : Nat} {z : Str} : fNi (.str ⟨#[k]⟩) (.str z) m P = P (.bl (!decide (k ∈ z.cps.toList))) m := by
  show (∃ c, (⟨#[k]⟩ : Str) = ⟨#[c]⟩ ∧ P (.bl (!decide (c ∈ z.cps.toList))) m) = _
  apply propext
  constructor
  · rintro ⟨c, h, g⟩
    cases h
    exact g
  · intro g
    exact ⟨k, rfl, g⟩
theorem fIx_t (h : atI ds i = some d) : fIx (.tup ds) (.int i) m P = P d m := by
  unfold fIx seqOf
  simp only [h]
theorem fIx_l (h : atI ds i = some d) : fIx (.lst ds) (.int i) m P = P d m := by
  unfold fIx seqOf
  simp only [h]
theorem fIx_b (hm : m p = some (.lst ds)) (h : atI ds i = some d) : fIx (.box p) (.int i) m P = P d m := by
  unfold fIx seqOf
  simp only [hm, h]
theorem fIx_s {k : Nat} (hl : s.length ≤ 1000000) (h : atI s.cps.toList i = some k) : fIx (.str s) (.int i) m P = P (.str ⟨#[k]⟩) m := by
  unfold fIx
  simp only [hl, h, true_and]
theorem fIx_t0 : fIx (.tup (d :: ds)) (.int 0) m P = P d m := fIx_t (by simp [atI, ixN])
theorem fIx_t1 : fIx (.tup (e :: d :: ds)) (.int 1) m P = P d m := fIx_t (by
  have : (1 : Int) < (ds.length : Int) + 1 + 1 := by omega
  simp [atI, ixN, this])
theorem fIx_t2 {a1 a2 : D} : fIx (.tup (a1 :: a2 :: d :: ds)) (.int 2) m P = P d m := fIx_t (by
  have : (2 : Int) < (ds.length : Int) + 1 + 1 + 1 := by omega
  simp [atI, ixN, this])
theorem fIx_l0 : fIx (.lst (d :: ds)) (.int 0) m P = P d m := fIx_l (by simp [atI, ixN])
theorem fIx_l1 : fIx (.lst (e :: d :: ds)) (.int 1) m P = P d m := fIx_l (by
  have : (1 : Int) < (ds.length : Int) + 1 + 1 := by omega
  simp [atI, ixN, this])
theorem fSl_s {lo hi : Option Int} : fSl (.str s) lo hi m P = (s.length ≤ 1000000 ∧ P (.str (cutS s lo hi)) m) := rfl
theorem fSl_t {lo hi : Option Int} : fSl (.tup ds) lo hi m P = P (.tup (cutD ds lo hi)) m := rfl
theorem fSl_l {lo hi : Option Int} : fSl (.lst ds) lo hi m P = P (.lst (cutD ds lo hi)) m := rfl
theorem fLen_s (h : s.length ≤ 1000000) : fLen [.str s] m P = P (.int s.length) m := by
  unfold fLen lenD
  simp only [h, if_pos]
theorem fLen_t : fLen [.tup ds] m P = P (.int ds.length) m := rfl
theorem fLen_l : fLen [.lst ds] m P = P (.int ds.length) m := rfl
theorem fLen_b (h : m p = some (.lst ds)) : fLen [.box p] m P = P (.int ds.length) m := by
  simp only [fLen, lenD, seqOf, h, Option.map]
theorem fInt_i : fInt [.int i] m P = P (.int i) m := rfl
theorem fAbs_i : fAbs [.int i] m P = P (.int (if i < 0 then -i else i)) m := rfl
theorem fMax_i : fMax [.int i, .int j] m P = P (.int (if j > i then j else i)) m := rfl
theorem fMin_i : fMin [.int i, .int j] m P = P (.int (if j < i then j else i)) m := rfl
theorem fTuple_t : fTuple [.tup ds] m P = P (.tup ds) m := rfl
theorem fTuple_l : fTuple [.lst ds] m P = P (.tup ds) m := rfl
theorem fTuple_b (h : m p = some (.lst ds)) : fTuple [.box p] m P = P (.tup ds) m := by
  simp only [fTuple, seqOf, h]
theorem fList_t : fList [.tup ds] m P = P (.lst ds) m := rfl
theorem fList_l : fList [.lst ds] m P = P (.lst ds) m := rfl
theorem isL_b (h : m p = some (.lst ds)) : isL m (.box p) = True := by
  simp only [isL, h]
theorem fApp_b (h : m p = some (.lst ds)) : fApp (.box p) [d] m P = (ds.length < 100000 ∧ P .non (mset m p (.lst (ds ++ [d])))) := by
  simp only [fApp, h]
theorem fPop_b (h : m p = some (.lst ds)) (hl : ds = es ++ [d]) : fPop (.box p) [] m P = P d (mset m p (.lst es)) := by
  subst hl
  simp only [fPop, h, List.length_append, List.length_singleton, Nat.add_sub_cancel, List.getElem?_append_right (Nat.le_refl _), Nat.sub_self, List.getElem?_cons_zero, List.dropLast_concat]
theorem fRepS_s {n : Int} : fRepS (.str s) (.int n) m P = ((-1000 ≤ n ∧ n ≤ 1000 ∧ s.length ≤ 1000) ∧ P (.str (repS s n)) m) := rfl
theorem seqOf_t : seqOf m (.tup ds) = some ds := rfl
theorem seqOf_l : seqOf m (.lst ds) = some ds := rfl
theorem seqOf_b (h : m p = some (.lst ds)) : seqOf m (.box p) = some ds := by simp only [seqOf, h]
theorem lstOf_b (h : m p = some (.lst ds)) : lstOf m (.box p) = some ds := by simp only [lstOf, h]
theorem truD_b : truD m (.bl b) = some b := rfl
theorem truD_t : truD m (.tup ds) = some (!ds.isEmpty) := rfl
theorem truD_l : truD m (.lst ds) = some (!ds.isEmpty) := rfl
theorem truD_x (h : m p = some (.lst ds)) : truD m (.box p) = some (!ds.isEmpty) := by simp only [truD, seqOf, h, Option.map]
theorem kTup_t {n : Nat} {kr : List D → Sl → Mu → (Sl → Mu → Prop) → Prop} {g : Sl} {R : Sl → Mu → Prop} : kTup n kr (.tup ds) g m R = (ds.length = n ∧ kr ds g m R) := rfl
theorem kTup_b {n : Nat} {kr : List D → Sl → Mu → (Sl → Mu → Prop) → Prop} {g : Sl} {R : Sl → Mu → Prop} (h : m p = some (.lst ds)) : kTup n kr (.box p) g m R = (ds.length = n ∧ kr ds g m R) := by
  simp only [kTup, seqOf, h]
theorem fSetIx_b {k : Nat} (h : m p = some (.lst ds)) (hk : ixN ds.length i = some k) : fSetIx (.box p) (.int i) d m Q = Q (mset m p (.lst (ds.set k d))) := by
  simp only [fSetIx, h, hk]
theorem fldOf_b {C dx : Addr} {f : Str} {fs : List (Str × D)} (h : m p = some (.ins C dx fs)) : fldOf C m f (.box p) = fs.lookup f := by
  simp only [fldOf, h, if_pos]
theorem setFld_b {C dx : Addr} {f : Str} {fs : List (Str × D)} (h : m p = some (.ins C dx fs)) : setFld C f (.box p) d m Q = (fs.length < 1000 ∧ Q (mset m p (.ins C dx (putD f d fs)))) := by
  simp only [setFld, h, true_and]
theorem isI_b {C dx : Addr} {f : Str} {fs : List (Str × D)} (h : m p = some (.ins C dx fs)) (hl : fs.lookup f = none) : isI C f m (.box p) = True := by
  simp only [isI, h, hl, true_and]
theorem fIsi_non_int : fIsi [.non, .ty "int"] m P = P (.bl false) m := by simp [fIsi, tyOf, isiT]
theorem fIsi_non_bool : fIsi [.non, .ty "bool"] m P = P (.bl false) m := by simp [fIsi, tyOf, isiT]
theorem fIsi_non_str : fIsi [.non, .ty "str"] m P = P (.bl false) m := by simp [fIsi, tyOf, isiT]
theorem fIsi_non_tuple : fIsi [.non, .ty "tuple"] m P = P (.bl false) m := by simp [fIsi, tyOf, isiT]
theorem fIsi_non_list : fIsi [.non, .ty "list"] m P = P (.bl false) m := by simp [fIsi, tyOf, isiT]
theorem fIsi_bl_int : fIsi [(.bl b), .ty "int"] m P = P (.bl true) m := by simp [fIsi, tyOf, isiT]
theorem fIsi_bl_bool : fIsi [(.bl b), .ty "bool"] m P = P (.bl true) m := by simp [fIsi, tyOf, isiT]
theorem fIsi_bl_str : fIsi [(.bl b), .ty "str"] m P = P (.bl false) m := by simp [fIsi, tyOf, isiT]
theorem fIsi_bl_tuple : fIsi [(.bl b), .ty "tuple"] m P = P (.bl false) m := by simp [fIsi, tyOf, isiT]
theorem fIsi_bl_list : fIsi [(.bl b), .ty "list"] m P = P (.bl false) m := by simp [fIsi, tyOf, isiT]
theorem fIsi_int_int : fIsi [(.int i), .ty "int"] m P = P (.bl true) m := by simp [fIsi, tyOf, isiT]
theorem fIsi_int_bool : fIsi [(.int i), .ty "bool"] m P = P (.bl false) m := by simp [fIsi, tyOf, isiT]
theorem fIsi_int_str : fIsi [(.int i), .ty "str"] m P = P (.bl false) m := by simp [fIsi, tyOf, isiT]
theorem fIsi_int_tuple : fIsi [(.int i), .ty "tuple"] m P = P (.bl false) m := by simp [fIsi, tyOf, isiT]
theorem fIsi_int_list : fIsi [(.int i), .ty "list"] m P = P (.bl false) m := by simp [fIsi, tyOf, isiT]
theorem fIsi_str_int : fIsi [(.str s), .ty "int"] m P = P (.bl false) m := by simp [fIsi, tyOf, isiT]
theorem fIsi_str_bool : fIsi [(.str s), .ty "bool"] m P = P (.bl false) m := by simp [fIsi, tyOf, isiT]
theorem fIsi_str_str : fIsi [(.str s), .ty "str"] m P = P (.bl true) m := by simp [fIsi, tyOf, isiT]
theorem fIsi_str_tuple : fIsi [(.str s), .ty "tuple"] m P = P (.bl false) m := by simp [fIsi, tyOf, isiT]
theorem fIsi_str_list : fIsi [(.str s), .ty "list"] m P = P (.bl false) m := by simp [fIsi, tyOf, isiT]
theorem fIsi_tup_int : fIsi [(.tup ds), .ty "int"] m P = P (.bl false) m := by simp [fIsi, tyOf, isiT]
theorem fIsi_tup_bool : fIsi [(.tup ds), .ty "bool"] m P = P (.bl false) m := by simp [fIsi, tyOf, isiT]
theorem fIsi_tup_str : fIsi [(.tup ds), .ty "str"] m P = P (.bl false) m := by simp [fIsi, tyOf, isiT]
theorem fIsi_tup_tuple : fIsi [(.tup ds), .ty "tuple"] m P = P (.bl true) m := by simp [fIsi, tyOf, isiT]
theorem fIsi_tup_list : fIsi [(.tup ds), .ty "list"] m P = P (.bl false) m := by simp [fIsi, tyOf, isiT]
theorem fIsi_lst_int : fIsi [(.lst ds), .ty "int"] m P = P (.bl false) m := by simp [fIsi, tyOf, isiT]
theorem fIsi_lst_bool : fIsi [(.lst ds), .ty "bool"] m P = P (.bl false) m := by simp [fIsi, tyOf, isiT]
theorem fIsi_lst_str : fIsi [(.lst ds), .ty "str"] m P = P (.bl false) m := by simp [fIsi, tyOf, isiT]
theorem fIsi_lst_tuple : fIsi [(.lst ds), .ty "tuple"] m P = P (.bl false) m := by simp [fIsi, tyOf, isiT]
theorem fIsi_lst_list : fIsi [(.lst ds), .ty "list"] m P = P (.bl true) m := by simp [fIsi, tyOf, isiT]
theorem fIsi_box_int (h : m p = some (.lst ds)) : fIsi [.box p, .ty "int"] m P = P (.bl false) m := by simp [fIsi, tyOf, isiT, h]
theorem fIsi_box_bool (h : m p = some (.lst ds)) : fIsi [.box p, .ty "bool"] m P = P (.bl false) m := by simp [fIsi, tyOf, isiT, h]
theorem fIsi_box_str (h : m p = some (.lst ds)) : fIsi [.box p, .ty "str"] m P = P (.bl false) m := by simp [fIsi, tyOf, isiT, h]
theorem fIsi_box_tuple (h : m p = some (.lst ds)) : fIsi [.box p, .ty "tuple"] m P = P (.bl false) m := by simp [fIsi, tyOf, isiT, h]
theorem fIsi_box_list (h : m p = some (.lst ds)) : fIsi [.box p, .ty "list"] m P = P (.bl true) m := by simp [fIsi, tyOf, isiT, h]
theorem fIsN_n {n : Bool} : fIsN n x .non m P = P (.bl (if n then !(decide (isN x = some true)) else decide (isN x = some true))) m := rfl
theorem ite_tt {A B : Prop} : (if true = true then A else B) = A := if_pos rfl
theorem ite_ff {A B : Prop} : (if false = true then A else B) = B := if_neg (by decide)
/-- a statement, then the rest, what is between them said by M -/
def aCut (s u : AbS) : AbS := fun E g m => ∃ M : Sl → Mu → Prop, s { E with nx := M } g m ∧ ∀ g' m', M g' m' → u E g' m'
theorem ab_cut {X : Cx} {S0 : Hp} {st : Stmt} {rest : List Stmt} {s u : AbS} (h : AS X S0 st s) (r : AB X S0 rest u) : AB X S0 (st :: rest) (aCut s u) := by
  obtain ⟨t, p, q⟩ := h.ex
  obtain ⟨t2, p2, q2⟩ := r.ex
  refine ⟨_, pss_cons p p2, fun E g m ⟨M, hs, hu⟩ st H S1 rp e0 e1 en D ok => ?_⟩
  refine q _ g m hs st H S1 rp e0 e1 en _ ⟨fun g' m' st' H' hm rp' e1' en' => ?_, ok.rt, ok.bk, ok.ct⟩
  exact q2 E g' m' (hu g' m' hm) st' H' S1 rp' e0 e1' en' D ok
theorem cut_plain {s u : AbS} {E : AEn} {g : Sl} {m : Mu} (h : s { E with nx := fun g' m' => u E g' m' } g m) : aCut s u E g m := ⟨_, h, fun _ _ z => z⟩
end
end AL
set_option maxHeartbeats 2000000
namespace AL
open PySem L2 Evl
/-! ### what is left behind -/
def Sub (m m' : Mu) : Prop := ∀ a o, m a = some o → m' a = some o
section
variable {K : PySem.W.Frag} {m m' m2 : Mu} {p : Addr} {o : MO} {d : D}
theorem Sub.refl : Sub m m := fun _ _ h => h
theorem Sub.trans (a : Sub m m') (b : Sub m' m2) : Sub m m2 := fun x o h => b x o (a x o h)
theorem Sub.new (h : Sub m m') (hp : m p = none) : Sub m (mset m' p o) := fun x u hx => by
  have : x ≠ p := fun z => by
    rw [z, hp] at hx
    cases hx
  rw [mset_ne this]
  exact h x u hx
theorem Sub.del (h : Sub m m') (hp : m p = none) : Sub m (mdel m' p) := fun x u hx => by
  have : x ≠ p := fun z => by
    rw [z, hp] at hx
    cases hx
  rw [mdel_ne this]
  exact h x u hx
theorem Sub.non (h : Sub m m') (hp : m' p = none) : m p = none := by
  cases e : m p with
  | none => rfl
  | some o =>
    rw [h p o e] at hp
    cases hp
theorem Po.sub {H : Hp} (h : Sub m' m) (rp : Rep K H m) : Po K m H m' H := by
  have ex : Ex (R m H) (R m' H) := fun b u hb => by
    obtain ⟨h1, h2⟩ := R_of hb
    rw [R_none (h.non h1)]
    exact h2
  exact ⟨fun a o ha => MOk.mono ex rfl (rp a o (h a o ha)), ex⟩
theorem Fz.sub (h : Sub m' m) : Fz K d m d m' := fun H v rp dv => ⟨Po.sub h rp, Den.mono (Po.sub h rp).2 _ _ dv⟩
theorem fzE.sub {P : PD} (h : Sub m' m) (hp : P d m') : fzE K P d m := ⟨d, m', Fz.sub h, hp⟩
end
end AL
set_option maxHeartbeats 400000
/-! more of loops and tests: over texts, over enumerate(tuple or list), a <= b <= c, all(list), == and in of data of any depth -/
namespace AL
open PySem L2 Evl PySem.Spec PyProof.Rows
section
variable {X : Cx} {S0 : Hp} {a b c e o : Expr} {es : List Expr} {fa fb fc fe : Ab} {ft fu : AbT} {fs fr : AbA} {pos : Pos} {K : PySem.W.Frag} {st : Stmt} {rest body : List Stmt} {s u : AbS}
/-! ### a op1 b op2 c -/
def aChain (f f' : D → D → Mu → PD → Prop) (fa fb fc : Ab) : AbT := fun g m P => fa g m fun x m1 => fb g m1 fun y m2 => f x y m2 (asT fun k m3 => if k = true then fc g m3 fun z m4 => f' y z m4 (asT P) else P false m3)
theorem at_chain {op op' : CmpOp} {r r' : R2} {f f' : D → D → Mu → PD → Prop} (ho : OpR X (compareOp op) r) (hr : OpA X.K r f) (ho' : OpR X (compareOp op') r') (hr' : OpA X.K r' f') (ha : AE X S0 a fa) (hb : AE X S0 b fb) (hc : AE X S0 c fc)
    (hm : lastMarks [op, op'] [b, c] = false := by with_unfolding_all rfl) : AT X S0 (.Compare a [op, op'] [b, c] pos) (aChain f f' fa fb fc) := by
  obtain ⟨ta, pa, qa⟩ := ha.ex
  obtain ⟨tb, pb, qb⟩ := hb.ex
  obtain ⟨tc, pc, qc⟩ := hc.ex
  refine ⟨_, pt_chain ho ho' pa pb pc hm, fun g m P h st H rp e0 en Q q => ?_⟩
  refine qa g m _ h st H rp e0 en _ fun v1 H1 x m1 h1 p1 d1 => ?_
  refine qb g m1 _ h1 st H1 p1.1 (e0.trans p1.2) (en.mono p1.2) _ fun v2 H2 y m2 h2 p2 d2 => ?_
  have p12 := p1.trans p2
  refine hr x y m2 _ h2 v1 v2 H2 p2.1 (Den.mono p2.2 _ _ d1) d2 _ fun v3 H3 d3 m3 h3 p3 dd3 => ?_
  obtain ⟨k, rfl, h3⟩ := den_bl h3 dd3
  refine ⟨k, rfl, ?_⟩
  have p123 := p12.trans p3
  cases k with
  | false =>
    rw [if_neg (by decide)] at h3 ⊢
    exact ⟨false, rfl, q false H3 m3 h3 p123⟩
  | true =>
    rw [if_pos rfl] at h3 ⊢
    refine qc g m3 _ h3 st H3 p3.1 (e0.trans p123.2) (en.mono p123.2) _ fun v4 H4 z m4 h4 p4 d4 => ?_
    refine hr' y z m4 _ h4 v2 v4 H4 p4.1 (Den.mono (p3.trans p4).2 _ _ d2) d4 _ fun v5 H5 d5 m5 h5 p5 dd5 => ?_
    obtain ⟨k5, rfl, h5⟩ := den_bl h5 dd5
    exact ⟨k5, rfl, q k5 H5 m5 h5 (p123.trans (p4.trans p5))⟩
theorem at_leLe (ha : AE X S0 a fa) (hb : AE X S0 b fb) (hc : AE X S0 c fc) (hm : lastMarks [.LtE, .LtE] [b, c] = false := by with_unfolding_all rfl) : AT X S0 (.Compare a [.LtE, .LtE] [b, c] pos) (aChain fLe fLe fa fb fc) :=
  at_chain op_le (opA_I0 fun _ _ _ => rfl) op_le (opA_I0 fun _ _ _ => rfl) ha hb hc hm
/-! ### all(list) -/
def blOf : D → Option Bool
  | .bl k => some k
  | _ => none
def boolsOf : List D → Option (List Bool)
  | [] => some []
  | d :: ds => match blOf d with
    | some k => match boolsOf ds with
      | some bs => some (k :: bs)
      | none => none
    | none => none
theorem blOf_den {S : Hp} {d : D} {v : V} {k : Bool} (h : Den K S d v) (e : blOf d = some k) : v = .bl k := by
  cases d with
  | bl b =>
    cases e
    exact h
  | _ => cases e
theorem bools_den {S : Hp} : ∀ {ds : List D} {vs : List V} {bs : List Bool}, DenL K S ds vs → boolsOf ds = some bs → vs = bs.map V.bl
  | [], _, _, h, e => by
    cases e
    exact h
  | d :: ds, _, bs, ⟨v, r, h1, h2, h3⟩, e => by
    have e : (match blOf d with
      | some k => (match boolsOf ds with
        | some bs => some (k :: bs)
        | none => none)
      | none => none) = some bs := e
    cases e1 : blOf d with
    | none =>
      rw [e1] at e
      cases e
    | some k =>
      rw [e1] at e
      cases e2 : boolsOf ds with
      | none =>
        rw [e2] at e
        cases e
      | some cs =>
        rw [e2] at e
        cases e
        rw [h1, blOf_den h2 e1, bools_den h3 e2]
        rfl
def fAll : List D → Mu → PD → Prop := fun xs m P => match xs with
  | [d] => match lstOf m d with
    | some ds => match boolsOf ds with
      | some bs => P (.bl (bs.all id)) m
      | none => False
    | none => False
  | _ => False
theorem caA_all : CaA K (rAll K) fAll := fun xs m P h vs H rp dl Q q => by
  match xs, h with
  | [d], h =>
    have h : (match lstOf m d with
      | some ds => (match boolsOf ds with
        | some bs => P (.bl (bs.all id)) m
        | none => False)
      | none => False) := h
    cases e : lstOf m d with
    | none =>
      rw [e] at h
      exact h.elim
    | some ds =>
      rw [e] at h
      have h : (match boolsOf ds with
        | some bs => P (.bl (bs.all id)) m
        | none => False) := h
      cases e2 : boolsOf ds with
      | none =>
        rw [e2] at h
        exact h.elim
      | some bs =>
        rw [e2] at h
        obtain ⟨v, rfl, dv⟩ := den1 dl
        obtain ⟨p, us, rfl, hu, du⟩ := lst_den rp dv e
        have := bools_den du e2
        subst this
        exact ⟨p, bs, rfl, sq_of hu, q _ H _ m h (Po.refl rp) rfl⟩
theorem ae_all {p : Pos} (hc : X.calm = true) (hm : X.mg "all" = none) (ha : AA X S0 (e :: es) fs) (hg : Gl X "all" := by rfl) (he : starEach (e :: es) X.env = (false, eval e X.env) :: starEach es X.env := by rfl) (hpl : (backTo pos (starEach es X.env)).any (·.1) = false := by rfl) :
    AE X S0 (.Call (.Name "all" p) (e :: es) [] pos) (aCa fAll fs) := ae_cb (cr_all hc) caA_all hg hm boot_all ha (by decide) (by decide) he hpl
/-! ### loops, told by what is drawn -/
theorem for_gen {J : It} {n : Nat} {item : Nat → D} {okm : Mu → Prop} {k : AbG} {tk : TG} {tb : TS} {E : AEn} {g : Sl} {m1 : Mu} {H1 S1 : Hp} {D : Ends} {st : L2.St} {Pv : Nat → Sl → Mu → Prop}
    (qk : ∀ d g m P, k d g m P → ∀ v st H S1, Rep X.K H m → Ex S0 S1 → Ex S1 (R m H) → Env X.K (R m H) g st → Den X.K (R m H) d v → ∀ Q : L2.St → Hp → Prop,
      (∀ g' m' st' H', P g' m' → Rep X.K H' m' → Ex S1 (R m' H') → Env X.K (R m' H') g' st' → Q st' H') → tk v st H Q)
    (qb : ∀ E g m, s E g m → WS X.K S0 tb E g m) (rp : Rep X.K H1 m1) (e0 : Ex S0 S1) (e1 : Ex S1 (R m1 H1)) (en : Env X.K (R m1 H1) g st) (ok : EndOk X.K S1 E D)
    (hJ : ∀ i m' H', i ≤ n → okm m' → Rep X.K H' m' → Ex (R m1 H1) (R m' H') → (i = n → J.stop i H') ∧ (i < n → J.go i H') ∧ ∀ x H2, i < n → J.yld i H' x H2 → Po X.K m' H' m' H2 ∧ Den X.K (R m' H2) (item i) x)
    (hp0 : Pv 0 g m1) (hstay : ∀ i g' m', i ≤ n → Pv i g' m' → okm m') (hturn : ∀ i g' m', i < n → Pv i g' m' → k (item i) g' m' fun g2 m2 => s { nx := Pv (i + 1), rt := E.rt, bk := E.nx, ct := Pv (i + 1) } g2 m2) (hend : ∀ g' m', Pv n g' m' → E.nx g' m') :
    ∃ W : Nat → Nat → L2.St → Hp → Prop, (∃ m, W 0 m st H1) ∧ ∀ i m σ H, W i m σ H → (J.stop i H ∧ D.nx σ H) ∨ (J.go i H ∧ ∃ N : L2.St → Hp → Prop, (∀ σ' H', N σ' H' → ∃ m', m' < m ∧ W (i + 1) m' σ' H') ∧
      ∀ x H', J.yld i H x H' → tk x σ H' fun σ2 H2 => tb { D with nx := N, ct := N, bk := D.nx } σ2 H2) := by
  let Qv : Nat → L2.St → Hp → Prop := fun i st' H' => ∃ g' m', Pv i g' m' ∧ Rep X.K H' m' ∧ Ex (R m1 H1) (R m' H') ∧ Env X.K (R m' H') g' st'
  have okm2 := ok.mono e1
  refine ⟨fun i w st' H' => w = n - i ∧ i ≤ n ∧ Qv i st' H', ⟨n, by simp, Nat.zero_le _, g, m1, hp0, rp, Ex.refl _, en⟩, ?_⟩
  rintro i w st' H' ⟨rfl, hi, g', m', hv, r, x, en'⟩
  obtain ⟨j1, j2, j3⟩ := hJ i m' H' hi (hstay i g' m' hi hv) r x
  by_cases hlt : i < n
  · refine .inr ⟨j2 hlt, Qv (i + 1), fun st2 H2 h2 => ⟨n - (i + 1), by omega, rfl, hlt, h2⟩, fun z H2 hy => ?_⟩
    obtain ⟨po, dz⟩ := j3 z H2 hlt hy
    have x2 := x.trans po.2
    refine qk _ g' m' _ (hturn i g' m' hlt hv) z st' H2 (R m1 H1) po.1 (e0.trans e1) x2 (en'.mono po.2) dz _ fun g2 m2 st2 H3 h2 r2 x3 en2 => ?_
    exact qb _ g2 m2 h2 st2 H3 (R m1 H1) r2 (e0.trans e1) x3 en2 _ ⟨fun g3 m3 st3 H3 z3 r3 x3 v3 => ⟨g3, m3, z3, r3, x3, v3⟩, okm2.rt, okm2.nx, fun g3 m3 st3 H3 z3 r3 x3 v3 => ⟨g3, m3, z3, r3, x3, v3⟩⟩
  · have : i = n := by omega
    subst this
    exact .inl ⟨j1 rfl, okm2.nx g' m' st' H' (hend g' m' hv) r x en'⟩
/-! ### for sign in text -/
def sgD (z : Str) (i : Nat) : D := .str ⟨#[z.cps.getD i 0]⟩
def aForT (fa : Ab) (k : AbG) (s : AbS) : AbS := fun E g m => fa g m fun d m1 => ∃ z : Str, d = .str z ∧ ∃ Pv : Nat → Sl → Mu → Prop, Pv 0 g m1 ∧
  (∀ i g' m', i < z.cps.size → Pv i g' m' → k (sgD z i) g' m' fun g2 m2 => s { nx := Pv (i + 1), rt := E.rt, bk := E.nx, ct := Pv (i + 1) } g2 m2) ∧ ∀ g' m', Pv z.cps.size g' m' → E.nx g' m'
theorem sgD_is {z : Str} {i c : Nat} (h : z.cps[i]? = some c) : sgD z i = .str ⟨#[c]⟩ := by
  unfold sgD
  rw [Array.getD_eq_getD_getElem?, h]
  rfl
theorem as_forT {tg : Expr} {k : AbG} (hp : PassesOwn (model X.prog X.w) X.A X.env X.xe) (hc : X.calm = true) (he : AE X S0 e fe) (hg : AG X S0 tg k) (hb : AB X S0 body s)
    (hs : ∀ x, foldedSetIterable e X.env x = pure x := by intro _; rfl) : AS X S0 (.For tg e body [] pos) (aForT fe k s) := by
  obtain ⟨te, pe, qe⟩ := he.ex
  obtain ⟨tk, pk, qk⟩ := hg.ex
  obtain ⟨tb, pb, qb⟩ := hb.ex
  refine ⟨_, ps_for hp hc (pi_str (tg := tg) pe) pk pb hs, fun E g m h st H S1 rp e0 e1 en D ok => ?_⟩
  refine qe g m _ h st H rp (e0.trans e1) en _ fun v H1 d m1 h1 p1 d1 => ?_
  obtain ⟨z, rfl, Pv, hp0, hturn, hend⟩ := h1
  cases d1
  refine ⟨z, rfl, for_gen (okm := fun _ => True) qk qb p1.1 e0 (e1.trans p1.2) (en.mono p1.2) ok (fun i m' H' hi _ r x => ?_) hp0 (fun _ _ _ _ _ => trivial) hturn hend⟩
  refine ⟨fun y => by rw [y]; exact Nat.le_refl _, fun y => y, fun x2 H2 hlt hy => ?_⟩
  obtain ⟨rfl, c, hcx, rfl⟩ := hy
  exact ⟨Po.refl r, by rw [sgD_is hcx]; rfl⟩
/-! ### [.. for sign in text] -/
def aLcT (fro : Bool) (fa : Ab) (vs : List Nat) (k : AbG) (ft : AbT) (fe : Ab) : Ab := fun g m P => fa g m fun d m1 => ∃ z : Str, d = .str z ∧ ∀ p, m1 p = none → ∃ Pv : Nat → List D → Mu → Prop, Pv 0 [] (mset m1 p (.lst [])) ∧
  lcTurns z.cps.size (sgD z) (fun _ => True) g vs k ft fe p Pv ∧ ∀ acc m', Pv z.cps.size acc m' → if fro = true then P (.lst acc) (mdel m' p) else P (.box p) m'
theorem lcT_sound (fro : Bool) {vs : List Nat} {k : AbG} {ta te : TE} {tg' : TG} {tt : TT} {elt : Expr} (qa : ∀ g m P, fa g m P → WX X.K S0 ta g m P) (qg : ∀ d g m P, k d (wipeD g vs) m P → ∀ v st H, Rep X.K H m → Env X.K (R m H) g st → Den X.K (R m H) d v →
      ∀ Q : L2.St → Hp → Prop, (∀ g' st', P g' m → wipe st' vs = wipe st vs → Env X.K (R m H) g' st' → Q st' H) → tg' v (wipe st vs) H Q)
    (qt : ∀ g m P, ft g m P → WT X.K S0 tt g m P) (qe : ∀ g m P, fe g m P → WX X.K S0 te g m P) : ∀ g m P, aLcT fro fa vs k ft fe g m P → WX X.K S0 (tLc (iStr ta) tg' tt te vs) g m P := by
  intro g m P h st H rp e0 en Q q
  refine qa g m _ h st H rp e0 en _ fun v H1 d m1 h1 p1 d1 => ?_
  obtain ⟨z, rfl, h1⟩ := h1
  cases d1
  refine ⟨z, rfl, lc_gen (n := z.cps.size) p1.1 (e0.trans p1.2) (en.mono p1.2) qg qt qe (fun i m' H' hi hok r x => ?_) h1 fun v H' d' m' hp po dv => q v H' d' m' hp (p1.trans po) dv⟩
  refine ⟨fun y => by rw [y]; exact Nat.le_refl _, fun y => y, fun y H2 hlt hy => ?_⟩
  obtain ⟨rfl, c, hcx, rfl⟩ := hy
  exact ⟨rfl, by rw [sgD_is hcx]; rfl⟩
theorem ae_lcT (fro : Bool) {tg elt : Expr} {k : AbG} {scope : Scope} {own : List (Str × Nat)} {ifs : List Expr} (hc : X.calm = true) (hN : X.N.Nodup) (ok : BlkOk X.N X.env.scope scope own) (ha : AE X S0 a fa) (hg : ACg X S0 scope (own.map (·.2)) tg k) (ht : ATs X S0 scope ifs ft) (he : AllB X scope fun Y => AE Y S0 elt fe)
    (hs : ∀ x, foldedSetIterable a X.env x = pure x := by intro _; rfl) : AE X S0 (.ListComp elt [⟨tg, a, ifs, 0⟩] scope pos) (aLcT fro fa (own.map (·.2)) k ft fe) := by
  obtain ⟨ta, pa, qa⟩ := ha.ex
  obtain ⟨tg', pg, qg⟩ := hg.ex
  obtain ⟨tt, pt, qt⟩ := ht.ex
  obtain ⟨te, pe, qe⟩ := all_ae he
  exact ⟨_, pe_lc hc hN (pi_str pa) ok pg pt pe hs, lcT_sound (elt := elt) fro qa qg qt qe⟩
end
end AL
set_option maxHeartbeats 1000000
/-! enumerate of a tuple or a list -/
namespace L2
open PySem PySem.Spec PyProof.Rows
/-- enumerate(v) of anything whose iterator is a new object -/
theorem new_enumB {v : Value} {ob : Obj} {Hs : Heap → Prop} (B : Begins v ob Hs) :
    Meets (Builtin.«enumerate.__new__» ⟨[.type "enumerate", v], []⟩) (fun _ R s => Hs s.heap ∧
      R (.ok (.ret (.ref (s.heap.push ob).objs.size))) { s with heap := (s.heap.push ob).push { cls := .type "enumerate", data := .fields #[.none, .bool false, .ref s.heap.objs.size, rawInt 0, .none, .none] } }) :=
  .of_wp fun prog w A R s z => by
    obtain ⟨hp, gs, dr, tk, os⟩ := s
    obtain ⟨z1, z2⟩ := z
    have hsub := sub_enumerate
    have begun : ∀ {A' : Around} {E Q : Value → Shared → Prop}, Q (.ref hp.objs.size) ⟨hp.push ob, gs, dr, tk, os⟩ → wpAny (model prog w) A' (pyIter v) Q E ⟨hp, gs, dr, tk, os⟩ :=
      fun y => B.iter prog w _ _ ⟨hp, gs, dr, tk, os⟩ _ z1 y
    wp_walk using begun
    refine wpAny_stack_any fun st => wpAny_pure ?_
    split
    · rename_i cc _ _ _ _ _
      cases (cc == Value.type "enumerate")
      · wp_walk using begun
        exact ⟨_, rfl, z2⟩
      · wp_walk using begun
        exact ⟨_, rfl, z2⟩
    · wp_walk using begun
      exact ⟨_, rfl, z2⟩
theorem call_enumB {prog : Program} {w : World} {A : Around} {E : Value → Shared → Prop} {s : Shared} {v : Value} {ob : Obj} {Hs : Heap → Prop} {Q : Value → Shared → Prop} (B : Begins v ob Hs) (z1 : Hs s.heap)
    (z : ∀ g, IsEnum g (s.heap.objs.size + 1) s.heap.objs.size 0 .none → g.get? s.heap.objs.size = some ob → (∀ b o, s.heap.get? b = some o → g.get? b = some o) → Q (.ref (s.heap.objs.size + 1)) { s with heap := g }) :
    wpAny (model prog w) A (call (.type "enumerate") [v]) Q E s := by
  refine callType_new F.called_enumerate (by decide) (F.typeCall_enumerate_1 _) (F.newCall_enumerate_1 _) (fun obj => F.args_object_init_2 obj _) F.entry_enumerate_new (new_enumB B) ⟨z1, ?_⟩
  have sz : (s.heap.push ob).objs.size = s.heap.objs.size + 1 := Heap.size_push ..
  show _ ∧ _
  rw [sz]
  have en : IsEnum ((s.heap.push ob).push { cls := .type "enumerate", data := .fields #[.none, .bool false, .ref s.heap.objs.size, rawInt 0, .none, .none] }) (s.heap.objs.size + 1) s.heap.objs.size 0 .none := by
    have q := Heap.get?_push_size (s.heap.push ob) (o := { cls := .type "enumerate", data := .fields #[.none, .bool false, .ref s.heap.objs.size, rawInt 0, .none, .none] }) rfl
    rw [sz] at q
    exact q
  exact ⟨⟨_, en, rfl⟩, z _ en (Heap.get?_push_of_some _ (Heap.get?_push_size _ B.free)) fun b o y => Heap.get?_push_of_some _ (Heap.get?_push_of_some _ y)⟩
/-- the tuple at a as it stands at each turn, each item in a new pair -/
def IteT (K : PySem.W.Frag) (a : Addr) : It :=
  ⟨fun i H => ∃ (vs : List V) (y : V), SqT K H a vs ∧ vs[i]? = some y, fun i H v H' => ∃ t y, v = .ref t ∧ H t = none ∧ H' = upd H t (.tup [.int (i : Nat), y]) ∧ ∀ vs, SqT K H a vs → vs[i]? = some y, fun i H => ∃ vs : List V, SqT K H a vs ∧ vs.length ≤ i⟩
theorem turn_enumT {P : Program} {w : World} {K : PySem.W.Frag} {elts : List Expr} {kk : Nat} {tpos : Pos} (a e it : Addr) :
    Turn P w K (.Tuple elts kk tpos) (IteT K a) [e, it] e (fun i h => (∃ u, IsEnum h e it ((i : Nat) : Int) u) ∧ h.IsTupleIter it a i ∧ e ≠ it) where
  mem := List.mem_cons_self
  obj := fun i h st b hb => by
    obtain ⟨⟨u, he⟩, ⟨ob, ho, _, hd⟩, _⟩ := st
    rcases List.mem_cons.mp hb with rfl | hb
    · exact ⟨_, he, fun v z => nomatch z⟩
    · rw [List.mem_singleton.mp hb]
      exact ⟨ob, ho, fun v z => by rw [hd] at z; cases z⟩
  keep := fun i h h' st k => ⟨⟨_, k e List.mem_cons_self _ st.1.choose_spec⟩, st.2.1.at fun o q => k it (by simp) o q, st.2.2⟩
  item := by
    intro X hP hw hK hc i pins s σ H E I hf st hg
    subst hP hw hK
    obtain ⟨⟨u0, he⟩, hit, hne⟩ := st
    obtain ⟨vs, y, hq, hy⟩ := hg
    obtain ⟨its, rv, pl, _⟩ := I.tuple hq
    obtain ⟨u, hu, ru⟩ := rv.get hy
    have le := Heap.lt_size he
    have ne1 : a ≠ it := fun z => by
      obtain ⟨o1, e1, c1, _⟩ := hit
      obtain ⟨o2, e2, c2, _⟩ := pl
      rw [z, e1] at e2
      cases e2
      rw [c1] at c2
      injection c2 with c3
      exact absurd c3 (by decide)
    have ne2 : a ≠ e := fun z => by
      obtain ⟨o2, e2, c2, _⟩ := pl
      rw [z, he] at e2
      cases e2
      injection c2 with c3
      exact absurd c3 (by decide)
    have hil : i < its.length := (List.getElem?_eq_some_iff.mp hu).1
    have Dr := Draws.tuple (prog := X.prog) (w := X.w) (A := X.A.in1) (I.ok.hd hc) it a ne1 its.toArray
    refine wpAny_pyNext_enum_itemD Dr he ⟨hit, pl⟩ (by simpa using hil) hne (by simp [hne, ne2.symm]) fun u2 g tk hu2 ho st2 hT _ kp => ?_
    have hue : u2 = u := by
      have : its.toArray[i]? = some u2 := hu2
      rw [List.getElem?_toArray, hu] at this
      exact (Option.some.inj this).symm
    subst hue
    refine ⟨_, rfl, wpAny_letOwnedTupleGo_enum (s := { s with heap := g, toks := tk + 1 }) ho fun g2 he2 sb => ?_⟩
    have le2 : s.heap.objs.size ≠ e := Nat.ne_of_gt le
    have hT2 := (sb.2 _ le2).trans hT
    have fresh : ObjOk X.prog X.w (upd H s.heap.objs.size (.tup [.int (i : Nat), y])) g2 s.heap.objs.size (.tup [.int (i : Nat), y]) :=
      ⟨by show 2 ≤ sizeLine; decide, [.int i tk, u2], .cons ⟨_, rfl⟩ (.cons ru .nil), ⟨_, hT2, rfl, _, rfl⟩⟩
    have J : Inv X pins σ (upd H s.heap.objs.size (.tup [.int (i : Nat), y])) { s with heap := g2, toks := tk + 1 } := by
      refine I.turnedNew (ch := [e, it]) (fun b ob hb z => ?_) hf (Nat.le_refl _) fresh
      have b1 : b ≠ e := fun q => hb (by simp [q])
      have b2 : b ≠ it := fun q => hb (by simp [q])
      exact (sb.2 b b1).trans (kp b ob b1 b2 z)
    refine ⟨.ref s.heap.objs.size, _, J, rfl, ⟨_, y, rfl, I.hok.fresh (Nat.le_refl _), rfl, fun ws hw => by rw [I.tuple_inj hw hq]; exact hy⟩, ⟨⟨u2, ?_⟩, st2.1.at fun o z => (sb.2 it (Ne.symm hne)).trans z, hne⟩, fun b hb => ?_⟩
    · rw [show ((i + 1 : Nat) : Int) = (i : Int) + 1 by omega]
      exact he2
    · have hlt : b < s.heap.objs.size := by
        rcases List.mem_cons.mp hb with rfl | hb
        · exact le
        · rw [List.mem_singleton.mp hb]
          obtain ⟨_, z, _⟩ := hit
          exact Heap.lt_size z
      rw [upd_ne (Nat.ne_of_lt hlt)]
      exact (hf b hb).1
  done := by
    intro X hP hw hK hc i pins s σ H E I hf st hg
    subst hP hw hK
    obtain ⟨⟨u0, he⟩, hit, hne⟩ := st
    obtain ⟨vs, hq, hy⟩ := hg
    obtain ⟨its, rv, pl, _⟩ := I.tuple hq
    have ne1 : a ≠ it := fun z => by
      obtain ⟨o1, e1, c1, _⟩ := hit
      obtain ⟨o2, e2, c2, _⟩ := pl
      rw [z, e1] at e2
      cases e2
      rw [c1] at c2
      injection c2 with c3
      exact absurd c3 (by decide)
    obtain ⟨f0, f1, f2, f3, f4, f5⟩ := hf it (by simp)
    have hl := rv.length
    have nx : its.toArray[i]? = none := by simp; omega
    have hT : s.TypeIs (.ref e) "enumerate" := ⟨_, he, rfl⟩
    unfold pyNext
    refine wpAny_bind (wpAny_attempt (wpAny_callSpecial?_slot (name := Str.ofString "__next__") hT F.slot_enumerate_next (wpAny_call_entry F.slot_enumerate_next hT F.entry_enumerate_next ?_ (F.args_enumerate_next_1 _))))
    show wpAny _ _ (field (.ref e) 2 >>= _) _ _ _
    refine wpAny_bind (wpAny_field he rfl (x := .ref it) rfl ?_)
    refine wpAny_bind (wpAny_nextOf_tuple_end (A := X.A.in1) (I.ok.hd hc) hit pl nx fun g x eb hx => ?_)
    obtain ⟨o, ho, hcx⟩ := hx
    refine wpAny_bind (wpAny_isInstance (T := "StopIteration") (b := true) ⟨o, ho, hcx⟩ isSubtype_stop ?_)
    exact wpAny_pure ⟨rfl, I.turned (t' := s.toks) (fun b o hb q => eb b o hb q) f0 f1 f3 f4 f5⟩
  self := fun A i s Q E st h => wpAny_pyIter_enum st.1.choose_spec h
def iEnumA (K : PySem.W.Frag) (ta : TA) : TI := fun σ H R => ta σ H fun vs H1 => ∃ a, vs = [.ref a] ∧ (((∃ xs, SqL K H1 a xs) ∧ R (Ite K a) H1) ∨ ((∃ xs, SqT K H1 a xs) ∧ R (IteT K a) H1))
theorem pi_enumA {X : Cx} {e : Expr} {ta : TA} {p pos tpos : Pos} {elts : List Expr} {kk : Nat} (hg : Gl X "enumerate") (hm : X.mg "enumerate" = none) (ha : PA X [e] ta) (hs : starEach [e] X.env = [(false, eval e X.env)] := by rfl) :
    PI X (.Tuple elts kk tpos) (.Call (.Name "enumerate" p) [e] [] pos) (iEnumA X.K ta) := by
  refine ⟨fun pins s σ H R I z => Call_ (ld_blt I hg hm boot_enumerate (PyProof.Rows.callWith_type1 (thn (ha.run pos pins s σ H _ I z) fun us s1 ⟨vs, H1, I1, r1, y⟩ => ?_) hs rfl))⟩
  obtain ⟨a, rfl, y⟩ := y
  cases r1 with
  | cons r rr =>
    cases rr
    cases r
    have fr : ∀ b ∈ [s1.heap.objs.size + 1, s1.heap.objs.size], FpOk X pins H1 b := fun b hb => by
      have le : s1.heap.objs.size ≤ b := by
        rcases List.mem_cons.mp hb with rfl | hb
        · exact Nat.le_succ _
        · rw [List.mem_singleton.mp hb]
          exact Nat.le_refl _
      exact I1.fpOk le (I1.hok.fresh le)
    rcases y with ⟨⟨xs, hq⟩, y⟩ | ⟨⟨xs, hq⟩, y⟩
    · obtain ⟨its, rv, pl, _⟩ := I1.list hq
      refine call_enumB (begins_list a its.toArray) pl.isList fun g en ob kp => wpAny_pyIter_enum en ?_
      exact ⟨_, _, _, _, H1, rfl, I1.kept (t' := s1.toks) kp, turn_enum a _ s1.heap.objs.size, ⟨⟨_, en⟩, ⟨_, ob, rfl, rfl⟩, Nat.succ_ne_self _⟩, fr, y⟩
    · obtain ⟨its, rv, pl, _⟩ := I1.tuple hq
      refine call_enumB (begins_tuple a its.toArray) pl fun g en ob kp => wpAny_pyIter_enum en ?_
      exact ⟨_, _, _, _, H1, rfl, I1.kept (t' := s1.toks) kp, turn_enumT a _ s1.heap.objs.size, ⟨⟨_, en⟩, ⟨_, ob, rfl, rfl⟩, Nat.succ_ne_self _⟩, fr, y⟩
end L2
namespace AL
open PySem L2 Evl
section
variable {X : Cx} {S0 : Hp} {a b c e o : Expr} {es : List Expr} {fa fb fc fe : Ab} {ft fu : AbT} {fs fr : AbA} {pos : Pos} {K : PySem.W.Frag} {st : Stmt} {rest body : List Stmt} {s u : AbS}
def enD (ds : List D) (i : Nat) : D := .tup [.int (i : Nat), ds.getD i .non]
theorem enD_is {ds : List D} {i : Nat} {y : D} (h : ds[i]? = some y) : enD ds i = .tup [.int (i : Nat), y] := by
  unfold enD
  rw [List.getD_eq_getElem?_getD, h]
  rfl
def aForE (fs : AbA) (k : AbG) (s : AbS) : AbS := fun E g m => fs g m fun xs m1 => ∃ d ds, xs = [d] ∧ seqOf m1 d = some ds ∧ ∃ Pv : Nat → Sl → Mu → Prop, Pv 0 g m1 ∧ (∀ i g' m', i ≤ ds.length → Pv i g' m' → seqOf m' d = some ds) ∧
  (∀ i g' m', i < ds.length → Pv i g' m' → k (enD ds i) g' m' fun g2 m2 => s { nx := Pv (i + 1), rt := E.rt, bk := E.nx, ct := Pv (i + 1) } g2 m2) ∧ ∀ g' m', Pv ds.length g' m' → E.nx g' m'
theorem pair_new {m : Mu} {H : Hp} {i : Nat} {y : D} {w : V} {t : Addr} (r : Rep K H m) (hw : Den K (R m H) y w) (ht : H t = none) : Po K m H m (upd H t (.tup [.int (i : Nat), w])) ∧ Den K (R m (upd H t (.tup [.int (i : Nat), w]))) (.tup [.int (i : Nat), y]) (.ref t) := by
  obtain ⟨po, hR⟩ := Po.new (o := .tup [.int (i : Nat), w]) r ht
  exact ⟨po, t, _, rfl, .inl (.inl hR), _, _, rfl, rfl, w, [], rfl, Den.mono po.2 _ _ hw, rfl⟩
theorem as_forE {elts : List Expr} {kk : Nat} {tpos p p2 : Pos} {k : AbG} (hp : PassesOwn (model X.prog X.w) X.A X.env X.xe) (hc : X.calm = true) (hm : X.mg "enumerate" = none) (ha : AA X S0 [e] fs) (hg : AG X S0 (.Tuple elts kk tpos) k) (hb : AB X S0 body s)
    (hgl : Gl X "enumerate" := by rfl) (hs1 : starEach [e] X.env = [(false, eval e X.env)] := by rfl) (hs : ∀ x, foldedSetIterable (.Call (.Name "enumerate" p) [e] [] p2) X.env x = pure x := by intro _; rfl) :
    AS X S0 (.For (.Tuple elts kk tpos) (.Call (.Name "enumerate" p) [e] [] p2) body [] pos) (aForE fs k s) := by
  obtain ⟨ta, pa, qa⟩ := ha.ex
  obtain ⟨tk, pk, qk⟩ := hg.ex
  obtain ⟨tb, pb, qb⟩ := hb.ex
  refine ⟨_, ps_for hp hc (pi_enumA hgl hm pa hs1) pk pb hs, fun E g m h st H S1 rp e0 e1 en D ok => ?_⟩
  refine qa g m _ h st H rp (e0.trans e1) en _ fun vs H1 xs m1 h1 p1 d1 => ?_
  obtain ⟨d, ds, rfl, eds, Pv, hp0, hstay, hturn, hend⟩ := h1
  obtain ⟨v, rfl, dv⟩ := den1 d1
  obtain ⟨p, rfl⟩ := dv.refd eds
  obtain ⟨vs0, dv0, k0⟩ := seq_kind p1.1 dv eds
  refine ⟨p, rfl, ?_⟩
  cases kd : isTup d with
  | false =>
    rw [kd, if_neg (by decide)] at k0
    refine .inl ⟨⟨vs0, k0⟩, for_gen qk qb p1.1 e0 (e1.trans p1.2) (en.mono p1.2) ok (fun i m' H' hi hok r x => ?_) hp0 hstay hturn hend⟩
    obtain ⟨vs, dvs, kv⟩ := seq_kind r (Den.mono x _ _ dv) hok
    rw [kd, if_neg (by decide)] at kv
    refine ⟨fun z => ⟨vs, kv, by rw [dvs.len, z]; exact Nat.le_refl _⟩, fun z => ⟨vs, vs[i]'(by rw [dvs.len]; exact z), kv, by simp⟩, fun y H2 z hy => ?_⟩
    obtain ⟨t, y0, rfl, ht, rfl, hy⟩ := hy
    obtain ⟨w, hw, dw⟩ := dvs.getV (hy vs kv)
    rw [enD_is hw]
    exact pair_new r dw ht
  | true =>
    rw [kd, if_pos rfl] at k0
    refine .inr ⟨⟨vs0, k0⟩, for_gen qk qb p1.1 e0 (e1.trans p1.2) (en.mono p1.2) ok (fun i m' H' hi hok r x => ?_) hp0 hstay hturn hend⟩
    obtain ⟨vs, dvs, kv⟩ := seq_kind r (Den.mono x _ _ dv) hok
    rw [kd, if_pos rfl] at kv
    refine ⟨fun z => ⟨vs, kv, by rw [dvs.len, z]; exact Nat.le_refl _⟩, fun z => ⟨vs, vs[i]'(by rw [dvs.len]; exact z), kv, by simp⟩, fun y H2 z hy => ?_⟩
    obtain ⟨t, y0, rfl, ht, rfl, hy⟩ := hy
    obtain ⟨w, hw, dw⟩ := dvs.getV (hy vs kv)
    rw [enD_is hw]
    exact pair_new r dw ht
end
end AL
set_option maxHeartbeats 1000000
/-! data of any depth: ==, !=, in, not in, < -/
namespace AL
open PySem L2 Evl
mutual
def pyD : D → Option PyData
  | .non => some .none
  | .bl b => some (.bool b)
  | .int i => some (.int i)
  | .str x => some (.str x)
  | .tup ds => match pyDs ds with
    | some xs => some (.tuple xs)
    | none => none
  | .lst ds => match pyDs ds with
    | some xs => some (.list xs)
    | none => none
  | .box _ => none
  | .ty _ => none
  | .scr _ => none
def pyDs : List D → Option (List PyData)
  | [] => some []
  | d :: ds => match pyD d with
    | some x => match pyDs ds with
      | some xs => some (x :: xs)
      | none => none
    | none => none
end
def dataOf (m : Mu) : D → Option PyData
  | .box p => match m p with
    | some (.lst ds) => match pyDs ds with
      | some xs => some (.list xs)
      | none => none
    | _ => none
  | d => pyD d
section
variable {X : Cx} {S0 : Hp} {a b c e o : Expr} {es : List Expr} {fa fb fc fe : Ab} {pos : Pos} {K : PySem.W.Frag}
mutual
theorem pyD_den {S H : Hp} (up : Ex S H) : ∀ (d : D) (v : V) (x : PyData), Den K S d v → pyD d = some x → Dp K H v x
  | .non, _, _, h, q => by
    cases q
    cases h
    exact .non
  | .bl b, _, _, h, q => by
    cases q
    cases h
    exact .bl b
  | .int i, _, _, h, q => by
    cases q
    cases h
    exact .int i
  | .str z, _, _, h, q => by
    cases q
    cases h
    exact .str z
  | .box _, _, _, _, q => by cases q
  | .ty _, _, _, _, q => by cases q
  | .scr _, _, _, _, q => by cases q
  | .tup ds, v, x, h, q => by
    have q : (match pyDs ds with
      | some xs => some (PyData.tuple xs)
      | none => none) = some x := q
    cases e : pyDs ds with
    | none =>
      rw [e] at q
      cases q
    | some xs =>
      rw [e] at q
      cases q
      obtain ⟨p, vs, rfl, h2, h3⟩ := h
      exact .tup (ex_t up h2) (pyDs_den up ds vs xs h3 e)
  | .lst ds, v, x, h, q => by
    have q : (match pyDs ds with
      | some xs => some (PyData.list xs)
      | none => none) = some x := q
    cases e : pyDs ds with
    | none =>
      rw [e] at q
      cases q
    | some xs =>
      rw [e] at q
      cases q
      obtain ⟨p, vs, rfl, h2, h3⟩ := h
      exact .lst (sq_of (up p _ h2)) (pyDs_den up ds vs xs h3 e)
theorem pyDs_den {S H : Hp} (up : Ex S H) : ∀ (ds : List D) (vs : List V) (xs : List PyData), DenL K S ds vs → pyDs ds = some xs → DpAll K H vs xs
  | [], _, _, h, q => by
    cases q
    rw [show _ = [] from h]
    exact .nil
  | d :: ds, vs, xs, h, q => by
    obtain ⟨v, r, rfl, h2, h3⟩ := h
    have q : (match pyD d with
      | some x => (match pyDs ds with
        | some xs => some (x :: xs)
        | none => none)
      | none => none) = some xs := q
    cases e1 : pyD d with
    | none =>
      rw [e1] at q
      cases q
    | some x =>
      rw [e1] at q
      cases e2 : pyDs ds with
      | none =>
        rw [e2] at q
        cases q
      | some ys =>
        rw [e2] at q
        cases q
        exact .cons (pyD_den up d v x h2 e1) (pyDs_den up ds r ys h3 e2)
end
theorem data_den {m : Mu} {H : Hp} {d : D} {v : V} {x : PyData} (rp : Rep K H m) (h : Den K (R m H) d v) (q : dataOf m d = some x) : Dp K H v x := by
  have up : Ex (R m H) H := fun a o z => (R_of z).2
  cases d with
  | box p =>
    have q : (match m p with
      | some (.lst ds) => (match pyDs ds with
        | some xs => some (PyData.list xs)
        | none => none)
      | _ => none) = some x := q
    cases e : m p with
    | none =>
      rw [e] at q
      cases q
    | some ob =>
      rw [e] at q
      cases ob with
      | ins C dx fs => cases q
      | dic mk kvs => cases q
      | lst ds =>
        have q : (match pyDs ds with
          | some xs => some (PyData.list xs)
          | none => none) = some x := q
        cases e2 : pyDs ds with
        | none =>
          rw [e2] at q
          cases q
        | some xs =>
          rw [e2] at q
          cases q
          obtain ⟨vs, h1, h2⟩ := rp p _ e
          cases h
          exact .lst (sq_of h1) (pyDs_den up ds vs xs h2 e2)
  | _ => exact pyD_den up _ v x h q
def fEqD : D → D → Mu → PD → Prop := fun x y m P => ∃ d k, dataOf m x = some d ∧ dataOf m y = some k ∧ SeqAt.shaped d = true ∧ SeqAt.shaped k = true ∧ P (.bl (PyData.eqv d k)) m
def fNeD : D → D → Mu → PD → Prop := fun x y m P => ∃ d k, dataOf m x = some d ∧ dataOf m y = some k ∧ SeqAt.shaped d = true ∧ SeqAt.shaped k = true ∧ P (.bl (!PyData.eqv d k)) m
theorem opA_eqD : OpA K (rEqD K) fEqD := fun x y m P h v w H rp d1 d2 Q q => by
  obtain ⟨d, k, h1, h2, h3, h4, h5⟩ := h
  exact ⟨d, k, data_den rp d1 h1, data_den rp d2 h2, h3, h4, q _ H _ m h5 (Po.refl rp) rfl⟩
theorem opA_neD : OpA K (rNeD K) fNeD := fun x y m P h v w H rp d1 d2 Q q => by
  obtain ⟨d, k, h1, h2, h3, h4, h5⟩ := h
  exact ⟨d, k, data_den rp d1 h1, data_den rp d2 h2, h3, h4, q _ H _ m h5 (Po.refl rp) rfl⟩
theorem Room.u64 {k : Nat} {A : Around} (r : Room k A) : A.units + 64 < cLine := by
  have := r.un
  omega
theorem Room.u65 {k : Nat} {A : Around} (r : Room k A) : A.units + 65 < cLine := by
  have := r.un
  omega
variable {k : Nat}
theorem at_eqD (hr : Room k X.A) (ha : AE X S0 a fa) (hb : AE X S0 b fb) (hm : behindInMarks .Eq b = false := by exact nomark _) : AT X S0 (.Compare a [.Eq] [b] pos) (aTest (aOp fEqD fa fb)) := at_cmp (op_eqD (Room.u64 hr)) opA_eqD hm ha hb
theorem at_neD (hr : Room k X.A) (ha : AE X S0 a fa) (hb : AE X S0 b fb) (hm : behindInMarks .NotEq b = false := by exact nomark _) : AT X S0 (.Compare a [.NotEq] [b] pos) (aTest (aOp fNeD fa fb)) := at_cmp (op_neD (Room.u64 hr)) opA_neD hm ha hb
theorem ae_eqD (hr : Room k X.A) (ha : AE X S0 a fa) (hb : AE X S0 b fb) (hm : behindInMarks .Eq b = false := by exact nomark _) : AE X S0 (.Compare a [.Eq] [b] pos) (aOp fEqD fa fb) := ae_cmp (op_eqD (Room.u64 hr)) opA_eqD hm ha hb
theorem ae_neD (hr : Room k X.A) (ha : AE X S0 a fa) (hb : AE X S0 b fb) (hm : behindInMarks .NotEq b = false := by exact nomark _) : AE X S0 (.Compare a [.NotEq] [b] pos) (aOp fNeD fa fb) := ae_cmp (op_neD (Room.u64 hr)) opA_neD hm ha hb
def fInD (n : Bool) : D → D → Mu → PD → Prop := fun x y m P => ∃ d ks, dataOf m x = some d ∧ dataOf m y = some (.list ks) ∧ SeqAt.shaped d = true ∧ SeqAt.shaped (.list ks) = true ∧ P (.bl (if n then !(ks.any fun z => PyData.eqv z d) else ks.any fun z => PyData.eqv z d)) m
theorem opA_inD : OpA K (rInD K) (fInD false) := fun x y m P h v w H rp d1 d2 Q q => by
  obtain ⟨d, ks, h1, h2, h3, h4, h5⟩ := h
  exact ⟨d, ks, data_den rp d1 h1, data_den rp d2 h2, h3, h4, q _ H _ m h5 (Po.refl rp) rfl⟩
theorem opA_niD : OpA K (rNotInD K) (fInD true) := fun x y m P h v w H rp d1 d2 Q q => by
  obtain ⟨d, ks, h1, h2, h3, h4, h5⟩ := h
  exact ⟨d, ks, data_den rp d1 h1, data_den rp d2 h2, h3, h4, q _ H _ m h5 (Po.refl rp) rfl⟩
theorem at_inD (hr : Room k X.A) (ha : AE X S0 a fa) (hb : AE X S0 b fb) (hm : behindInMarks .In b = false := by rfl) : AT X S0 (.Compare a [.In] [b] pos) (aTest (aOp (fInD false) fa fb)) := at_cmp (op_inD (Room.u65 hr)) opA_inD hm ha hb
theorem at_niD (hr : Room k X.A) (ha : AE X S0 a fa) (hb : AE X S0 b fb) (hm : behindInMarks .NotIn b = false := by rfl) : AT X S0 (.Compare a [.NotIn] [b] pos) (aTest (aOp (fInD true) fa fb)) := at_cmp (op_notInD (Room.u65 hr)) opA_niD hm ha hb
/-! ### < of data -/
def rLtD (K : PySem.W.Frag) : R2 := fun x y H Q => ∃ d k, Dp K H x d ∧ Dp K H y k ∧ PySem.W.alike d k = true ∧ d ≠ .none ∧ min d.depth k.depth ≤ 60 ∧ Q (.bl (PySem.W.dataLt d k)) H
theorem op_ltD (hu : X.A.units + 64 < cLine) : OpR X (compareOp .Lt) (rLtD X.K) := by
  intro pins s σ H x y v u Q I rx ry h
  obtain ⟨d, k, hd, hk, al, nn, dep, q⟩ := h
  obtain ⟨as, r1⟩ := Dp.reads I d x v hd rx
  obtain ⟨bs, r2⟩ := Dp.reads I k y u hk ry
  exact PySem.W.rcLt_alike d k _ _ _ _ as bs r1 r2 al nn (by omega) _ _ _ _ ⟨.bl _, H, I, rfl, q⟩
def fLtD : D → D → Mu → PD → Prop := fun x y m P => ∃ d k, dataOf m x = some d ∧ dataOf m y = some k ∧ PySem.W.alike d k = true ∧ d ≠ .none ∧ min d.depth k.depth ≤ 60 ∧ P (.bl (PySem.W.dataLt d k)) m
theorem opA_ltD : OpA K (rLtD K) fLtD := fun x y m P h v w H rp d1 d2 Q q => by
  obtain ⟨d, k, h1, h2, h3, h4, h5, h6⟩ := h
  exact ⟨d, k, data_den rp d1 h1, data_den rp d2 h2, h3, h4, h5, q _ H _ m h6 (Po.refl rp) rfl⟩
theorem at_ltD (hr : Room k X.A) (ha : AE X S0 a fa) (hb : AE X S0 b fb) (hm : behindInMarks .Lt b = false := by exact nomark _) : AT X S0 (.Compare a [.Lt] [b] pos) (aTest (aOp fLtD fa fb)) := at_cmp (op_ltD (Room.u64 hr)) opA_ltD hm ha hb
theorem ae_ltD (hr : Room k X.A) (ha : AE X S0 a fa) (hb : AE X S0 b fb) (hm : behindInMarks .Lt b = false := by exact nomark _) : AE X S0 (.Compare a [.Lt] [b] pos) (aOp fLtD fa fb) := ae_cmp (op_ltD (Room.u64 hr)) opA_ltD hm ha hb
end
end AL
set_option maxHeartbeats 1000000
/-! ord; xs[::-1] of a tuple; keywords in another order -/
namespace L2
open PySem PySem.Spec PyProof.Rows HT
section
variable {prog : Program} {w : World} {A : Around} {E : Value → Shared → Prop} {s : Shared}
theorem fm_congr {α β : Type} {f g : α → Option β} : ∀ {l : List α}, (∀ x ∈ l, f x = g x) → l.filterMap f = l.filterMap g
  | [], _ => rfl
  | x :: l, h => by
    rw [List.filterMap_cons, List.filterMap_cons, h x List.mem_cons_self, fm_congr fun y hy => h y (List.mem_cons_of_mem _ hy)]
theorem back_adjust (n : Nat) : Builtin.Slice.sliceAdjust none none (-1) (n : Int) = ((n : Int) - 1, -1) := by
  unfold Builtin.Slice.sliceAdjust
  simp
theorem back_places (n : Nat) : Builtin.Slice.slicePlaces ((n : Int) - 1) (-1) (-1) = n := by
  unfold Builtin.Slice.slicePlaces
  simp
  try omega
theorem back_pick (xs : Array Value) : ((List.range xs.size).filterMap fun (m : Nat) => xs[((xs.size : Int) - 1 + (m : Int) * -1).toNat]?).toArray = xs.toList.reverse.toArray := by
  have e : ∀ l : List Value, ((List.range l.length).filterMap fun (m : Nat) => l[((l.length : Int) - 1 + (m : Int) * -1).toNat]?) = l.reverse := by
    intro l
    have e1 : ∀ m ∈ List.range l.length, l[((l.length : Int) - 1 + (m : Int) * -1).toNat]? = l.reverse[m]? := fun m hm => by
      have hm : m < l.length := List.mem_range.mp hm
      rw [List.getElem?_reverse hm, show ((l.length : Int) - 1 + (m : Int) * -1).toNat = l.length - 1 - m by omega]
    rw [fm_congr e1]
    have := l.length_reverse
    rw [← this]
    generalize l.reverse = r
    clear e1 this
    induction r with
    | nil => rfl
    | cons x t ih =>
      rw [List.length_cons, List.range_succ_eq_map, List.filterMap_cons, List.filterMap_map]
      show x :: _ = _
      congr 1
  have e2 := e xs.toList
  rw [Array.length_toList] at e2
  congr 1
  rw [← e2]
  exact fm_congr fun m _ => by rw [Array.getElem?_toList]
theorem getItem_tup_back {t sl : Addr} {items : Array Value} {vl vu vs : Value} {Q : Value → Shared → Prop} (ht : IsTup s.heap t items) (hs : s.heap.IsSliceOf sl vl vu vs) (pl : IsPart vl none) (pu : IsPart vu none) (ps : IsPart vs (some (-1)))
    (h : Q (.ref s.heap.objs.size) { s with heap := s.heap.push { cls := .type "tuple", data := .seq items.toList.reverse.toArray } }) (hz : items.size ≤ sizeLine) : wpAny (model prog w) A (getItem (.ref t) (.ref sl)) Q E s := by
  have hsz : sizeOk (.seq items.toList.reverse.toArray) := by
    show items.toList.reverse.toArray.size ≤ sizeLine
    rw [List.size_toArray, List.length_reverse, Array.length_toList]
    exact hz
  obtain ⟨os, ho, hc, hd⟩ := id hs
  have hT : s.TypeIs (.ref sl) "slice" := ⟨os, ho, hc⟩
  have hap : ∀ {A : Around} {E : Value → Shared → Prop} {Q : Int × Int × Nat → Shared → Prop}, Q ((items.size : Int) - 1, -1, items.size) s → wpAny (model prog w) A (Builtin.Slice.sliceApplied (.ref sl) (pure (items.size : Int))) Q E s := fun {A E Q} h => by
    unfold Builtin.Slice.sliceApplied Builtin.Slice.sliceFields
    refine wpAny_bind (wpAny_bind (wpAny_field ho hd (x := vl) rfl ?_))
    refine wpAny_bind (wpAny_field ho hd (x := vu) rfl ?_)
    refine wpAny_bind (wpAny_field ho hd (x := vs) rfl ?_)
    refine wpAny_pure (wpAny_bind (slicePart_ ps ?_))
    show wpAny _ _ (if ((-1 : Int) == 0) = true then _ else _) _ _ s
    rw [if_neg (by decide)]
    refine wpAny_bind (slicePart_ pl ?_)
    refine wpAny_bind (slicePart_ pu ?_)
    refine wpAny_bind (wpAny_pure ?_)
    show wpAny _ _ (pure ((Builtin.Slice.sliceAdjust none none (-1) (items.size : Int)).1, (-1 : Int), Builtin.Slice.slicePlaces (Builtin.Slice.sliceAdjust none none (-1) (items.size : Int)).1 (Builtin.Slice.sliceAdjust none none (-1) (items.size : Int)).2 (-1))) _ _ s
    rw [back_adjust, back_places]
    exact wpAny_pure h
  unfold getItem
  try with_reducible refine wpAny_holding ?_
  first | refine wpAny_bind (wpAny_pure ?_) | skip
  refine wpAny_bind (wpAny_sequenceKey ht.typeIs (by decide) (wpAny_bind ?_))
  refine wpAny_callSpecial?_slot (name := Str.ofString "__getitem__") ht.typeIs PyProof.Rows.slot_tuple_getitem ?_
  refine wpAny_call_entry PyProof.Rows.slot_tuple_getitem ht.typeIs entry_tuple_getitem ?_ (args_tuple_getitem _ _)
  show wpAny _ _ (Builtin.Tuple.tupleItemsOf (.ref t) >>= _) _ _ s
  refine wpAny_bind (tupleItemsOf_ ht (wpAny_bind (wpAny_typeOf hT ?_)))
  rw [if_pos (by decide)]
  refine wpAny_bind (hap ?_)
  have hno : ¬ ((((items.size : Int) - 1) == 0 && (-1 : Int) == 1 && items.size == items.size) = true) := by
    simp
  show wpAny _ _ (if (((items.size : Int) - 1) == 0 && (-1 : Int) == 1 && items.size == items.size) = true then _ else _) _ _ s
  rw [if_neg hno, back_pick]
  have go : ∀ {B : Around} {F G}, G (.ref s.heap.objs.size) { s with heap := s.heap.push { cls := .type "tuple", data := .seq items.toList.reverse.toArray } } → wpAny (model prog w) B (Builtin.Tuple.tupleExact items.toList.reverse.toArray) G F s := fun {B F G} g =>
    wpAny_newObj_type g hsz
  first
    | exact wpAny_bind (go (wpAny_pure ⟨_, rfl, wpAny_pure h⟩))
    | exact wpAny_bind (wpAny_bind (go (wpAny_pure (wpAny_pure ⟨_, rfl, wpAny_pure h⟩))))
    | exact wpAny_bind (wpAny_bind (go (wpAny_pure ⟨_, rfl, wpAny_pure h⟩)))
    | exact wpAny_bind (go ⟨_, rfl, wpAny_pure h⟩)
variable {X : Cx}
def tRevT (K : PySem.W.Frag) (te : TE) : TE := fun σ H Q => te σ H fun x H1 => ∃ a xs, x = .ref a ∧ SqT K H1 a xs ∧ ∀ p, H1 p = none → Q (.ref p) (upd H1 p (.tup xs.reverse))
theorem pe_revT {e : Expr} {te : TE} {k : Nat} {p1 p2 p3 pos : Pos} (he : PE X e te) : PE X (.Subscript e (.Slice none none (some (.UnaryOp .USub (.Constant (.int 1) k p1) p2)) p3) pos) (tRevT X.K te) := by
  refine ⟨fun pins s σ H Q I h => Subscript_ (thn (he.run pins s σ H _ I h) fun v s1 ⟨x, H1, I1, r1, q1⟩ => ?_)⟩
  obtain ⟨a, xs, ex, hx, q⟩ := q1
  subst ex
  cases r1
  have hst : PO X (some (.UnaryOp .USub (.Constant (.int 1) k p1) p2)) (tPart (tUn (rU fun i => .int (-i)) (tC (.int 1)))) := po_some (pe_un un_neg pe_int)
  refine wpAny_Slice (thn (po_none.run pins s1 σ H1 (fun o G => o = none ∧ G = H1) I1 ⟨rfl, rfl⟩) fun vl s2 ⟨l, H2, I2, pl, el, e2⟩ => ?_)
  subst el
  subst e2
  refine thn (po_none.run pins s2 σ H2 (fun o G => o = none ∧ G = H2) I2 ⟨rfl, rfl⟩) fun vu s3 ⟨u, H3, I3, pu, eu, e3⟩ => ?_
  subst eu
  subst e3
  refine thn (hst.run pins s3 σ H3 (fun o G => o = some (-1) ∧ G = H3) I3 ⟨1, rfl, -1, rfl, rfl, rfl⟩) fun vs s4 ⟨o, H4, I4, ps, eo, e4⟩ => ?_
  subst eo
  subst e4
  have I5 : Inv X pins σ H4 { s4 with heap := s4.heap.push { cls := .type "slice", data := .fields #[vl, vu, vs] } } := I4.kept (t' := s4.toks) fun b ob q => Heap.get?_push_of_some _ q
  obtain ⟨its, r, ht, hz⟩ := I5.tuple hx
  have hlen := r.length
  show wpAny (model X.prog X.w) X.A (subscriptTail e (.Slice none none (some (.UnaryOp .USub (.Constant (.int 1) k p1) p2)) p3) (.ref a) (.ref s4.heap.objs.size)) (EP X pins σ Q) X.xe { s4 with heap := s4.heap.push { cls := .type "slice", data := .fields #[vl, vu, vs] } }
  refine tail_any (ops := [.ref a, .ref s4.heap.objs.size]) ht.typeIs (PyProof.Rows.slot_tuple_getitem.lookup) ?_ (by with_unfolding_all rfl)
  refine getItem_tup_back ht (Heap.IsSliceOf.new _ vl vu vs) pl pu ps ?_ (by rw [List.size_toArray]; omega)
  refine ⟨.ref _, _, I5.laid (t' := s4.toks) (o := .tup xs.reverse) (fun b ob q => Heap.get?_push_of_some _ q) (Nat.le_refl _) ?_, rfl, q _ (I5.hok.fresh (Nat.le_refl _))⟩
  exact ⟨by rw [List.length_reverse]; exact hz, its.reverse, r.reverse, ⟨_, Heap.get?_push_size _ rfl, rfl, _, rfl⟩⟩
end
end L2
namespace AL
open PySem L2 Evl
section
variable {X : Cx} {S0 : Hp} {a b c e o : Expr} {es : List Expr} {kws : List Keyword} {fa fb fc fe : Ab} {ft fu : AbT} {fs fr : AbA} {pos p : Pos} {K : PySem.W.Frag} {k : Nat} {x : Str} {ps ks : List Str} {sp : ASp}
def fOrd : List D → Mu → PD → Prop := fun xs m P => match xs with
  | [.str z] => z.length = 1 ∧ P (.int (z.cps.getD 0 0 : Nat)) m
  | _ => False
theorem caA_ord : CaA K (fun xs H Q => ∃ z : Str, xs = [V.str z] ∧ z.length = 1 ∧ Q (.int (z.cps.getD 0 0 : Nat)) H) fOrd := fun xs m P h vs H rp dl Q q => by
  match xs, h with
  | [.str z], h =>
    obtain ⟨v, rfl, dv⟩ := den1 dl
    cases dv
    exact ⟨z, rfl, h.1, q _ H _ m h.2 (Po.refl rp) rfl⟩
theorem ae_ord (hm : X.mg "ord" = none) (ha : AA X S0 (e :: es) fs) (hg : Gl X "ord" := by rfl) (he : starEach (e :: es) X.env = (false, eval e X.env) :: starEach es X.env := by rfl) (hpl : (backTo pos (starEach es X.env)).any (·.1) = false := by rfl) :
    AE X S0 (.Call (.Name "ord" p) (e :: es) [] pos) (aCa fOrd fs) := ae_cb call_ord caA_ord hg hm (by decide +kernel) ha (by decide) (by decide) he hpl
/-- the items of a tuple -/
def tupOf : D → Option (List D)
  | .tup ds => some ds
  | _ => none
def aRevT (fa : Ab) : Ab := fun g m P => fa g m fun x m1 => match tupOf x with
  | some ds => P (.tup ds.reverse) m1
  | none => False
theorem ae_revT {p1 p2 p3 p4 : Pos} {kk : Nat} (ha : AE X S0 a fa) : AE X S0 (.Subscript a (.Slice none none (some (.UnaryOp .USub (.Constant (.int 1) kk p1) p2)) p3) p4) (aRevT fa) := by
  obtain ⟨t, pt, s⟩ := ha.ex
  refine ⟨_, pe_revT pt, fun g m P h st H rp e0 en Q q => s g m _ h st H rp e0 en _ fun v H1 d m1 h1 p1 d1 => ?_⟩
  cases e : tupOf d with
  | none =>
    rw [e] at h1
    exact h1.elim
  | some ds =>
    rw [e] at h1
    cases d with
    | tup zs =>
      cases e
      obtain ⟨r, vs, rfl, hv, dv⟩ := d1
      refine ⟨r, vs, rfl, ?_, fun l hl => ?_⟩
      · exact ex_t (fun b o z => (R_of z).2) hv
      · obtain ⟨p2, hr⟩ := Po.new (o := .tup vs.reverse) p1.1 hl
        exact q _ _ (.tup ds.reverse) m1 h1 (p1.trans p2) ⟨l, _, rfl, st_of hr, DenL.mono p2.2 _ _ dv.rev⟩
    | _ => cases e
/-! ### f(y=e, x=e2) -/
def swapK {α : Type} : List α → List α → List α
  | [], [y, z] => [z, y]
  | _, _ => []
structure CalS (P : Program) (w : World) (K : PySem.W.Frag) (mg : Str → Option Value) (base : Heap) (k : Nat) (x : Str) (ps : List Str) (sp : ASp) : Prop where
  ex : ∃ (f : Addr) (fd : FuncData), FnOk P w K mg base (L2.CX P w) k f fd ps (lift K sp) ∧ mg x = some (.ref f) ∧ PySem.W.keepIn K (.ref f) = true ∧ KBinds K fd ps ps.reverse swapK swapK
theorem kswap {K : PySem.W.Frag} {fd : FuncData} {x y : Str} (h : ∀ (s : Shared) (a b : Value), BindsTo s fd ⟨[], [y, x].zip [a, b]⟩ ([x, y].zip [b, a])) : KBinds K fd [x, y] [x, y].reverse swapK swapK := by
  refine ⟨fun s us ws _ hl => ?_, fun {vs us zs ws} h1 h2 => ?_⟩
  · match us, ws, hl with
    | [], [a, b], _ => exact h s a b
    | [], [], hl => exact nomatch hl
    | [], [_], hl => exact nomatch hl
    | [], _ :: _ :: _ :: _, hl => exact nomatch hl
    | _ :: _, _, hl => exact nomatch hl
  · cases h1 with
    | cons _ _ => exact .nil
    | nil =>
      cases h2 with
      | nil => exact .nil
      | cons r1 h3 =>
        cases h3 with
        | nil => exact .nil
        | cons r2 h4 =>
          cases h4 with
          | nil => exact .cons r2 (.cons r1 .nil)
          | cons _ _ => exact .nil
def aSwap (fs : AbA) : AbA := fun g m P => fs g m fun xs m1 => P (swapK [] xs) m1
theorem swap_den {S : Hp} : ∀ {ds : List D} {vs : List V}, DenL K S ds vs → DenL K S (swapK [] ds) (swapK [] vs)
  | [], _, h => by
    rw [show _ = [] from h]
    exact rfl
  | [d], _, ⟨v, r, h1, h2, h3⟩ => by
    rw [h1, show r = [] from h3]
    exact rfl
  | [d, e], _, ⟨v, r, h1, h2, u, t, h3, h4, h5⟩ => by
    rw [h1, h3, show t = [] from h5]
    exact ⟨u, _, rfl, h4, v, [], rfl, h2, rfl⟩
  | d :: e :: f :: l, _, ⟨v, r, h1, h2, u, t, h3, h4, y, z, h5, h6, h7⟩ => by
    rw [h1, h3, h5]
    exact rfl
theorem ae_calKS (G : CalS X.prog X.w X.K X.mg X.base k x ps sp) (hr : Room k X.A) (ha : AK X S0 kws fs)
    (hg : Gl X x := by rfl) (hdb : (x == ("__debug__" : Str)) = false := by decide) (hall : (backToKw pos (keywordEach kws X.env)).all (·.1.isSome) = true := by rfl) (hks : (backToKw pos (keywordEach kws X.env)).filterMap (·.1) = ps.reverse := by rfl)
    (hpl : ((backTo pos (starEach [] X.env)).any (·.1) || (backToKw pos (keywordEach kws X.env)).any (·.1.isNone)) = false := by rfl) : AE X S0 (.Call (.Name x p) [] kws pos) (aCall sp (aSwap fs)) := by
  obtain ⟨f, fd, F, hm, hk, hb⟩ := G.ex
  obtain ⟨t, pt, s⟩ := ha.ex
  refine ⟨fun st H Q => t st H fun vs H1 => lift X.K sp (swapK [] vs) H1 Q E0, ⟨fun pins s0 st H Q I h => ?_⟩, fun g m P h st H rp e0 en Q q => ?_⟩
  · refine wpAny_Call_Name_kw (ld_glob I hg hm ?_ hdb)
    refine PySem.W.callWith_KW0 (h₀ := X.base) I.ok.mod.kin hk hall ?_ hpl
    refine thn (pt.run pos pins s0 st H _ I h) ?_
    rintro ws s2 ⟨zs, H2, I2, rz, q2⟩
    refine ⟨I2.kIn, ?_⟩
    rw [hks]
    exact run_fnk F hr hb passL I2 .nil rz q2
  · refine s g m _ h st H rp e0 en _ fun vs H1 ds m1 h1 p1 d1 => ?_
    exact ⟨swapK [] ds, m1, P, fun _ _ _ => False, swap_den d1, p1.1, h1, fun v H' d m' hp po dv => q v H' d m' hp (p1.trans po) dv, fun cls d H' z => noW z⟩
end
end AL
set_option maxHeartbeats 1000000
/-! dicts whose keys are tuples of any depth -/
namespace L2
open PySem PySem.Spec PyProof.Rows AL
def KR (p : NestedKey × Addr × V) (q : NestedKey × Addr × Value) : Prop := q.1 = p.1 ∧ q.2.1 = p.2.1 ∧ RelV p.2.2 q.2.2
def DicR (P : Program) (w : World) (h : Heap) (a : Addr) (L : KL) : Prop := (a == sysModules) = false ∧ L.length ≤ sizeLine ∧ ∃ xs : List (NestedKey × Addr × Value), Paired KR L xs ∧
  ∃ (o : Obj) (es : Array DictEntry) (ep : Nat), h.get? a = some o ∧ o.ExactDict ∧ o.data = .dict es ep ∧ es.toList = xs.map (entryOfKey (nestedKind P w)) ∧ (xs.map (·.1)).Nodup
def DicO (P : Program) (w : World) (a : Addr) (L : KL) : HO := .ext fun h => DicR P w h a L
theorem dic_ok {P : Program} {w : World} {H : Hp} {h : Heap} {a : Addr} {L : KL} (R : DicR P w h a L) : ObjOk P w H h a (DicO P w a L) := by
  obtain ⟨z, l, xs, pr, o, es, ep, ho, r⟩ := R
  refine ⟨⟨z, l, xs, pr, o, es, ep, ho, r⟩, ⟨o, ho⟩, fun h1 h2 p k => ?_⟩
  obtain ⟨z, l, xs, pr, o, es, ep, ho, r⟩ := p
  exact ⟨z, l, xs, pr, o, es, ep, k o ho, r⟩
theorem dic_of {P : Program} {w : World} {H : Hp} {h : Heap} {a : Addr} {L : KL} (ok : HOk P w H h) (e : H a = some (DicO P w a L)) : DicR P w h a L := (show ObjOk P w H h a (DicO P w a L) from ok a _ e).1
theorem kr_keys : ∀ {L : KL} {xs : List (NestedKey × Addr × Value)}, Paired KR L xs → xs.map (·.1) = L.map (·.1)
  | _, _, .nil => rfl
  | _, _, .cons h t => by
    rw [List.map_cons, List.map_cons, h.1, kr_keys t]
theorem kr_app : ∀ {L M : KL} {xs ys : List (NestedKey × Addr × Value)}, Paired KR L xs → Paired KR M ys → Paired KR (L ++ M) (xs ++ ys)
  | _, _, _, _, .nil, g => g
  | _, _, _, _, .cons h t, g => .cons h (kr_app t g)
theorem kr_mem : ∀ {L : KL} {xs : List (NestedKey × Addr × Value)}, Paired KR L xs → ∀ x ∈ xs, ∃ p ∈ L, KR p x
  | _, _, .nil, x, h => nomatch h
  | _, _, .cons h t, x, m => by
    rcases List.mem_cons.mp m with rfl | m
    · exact ⟨_, List.mem_cons_self, h⟩
    · obtain ⟨p, hp, r⟩ := kr_mem t x m
      exact ⟨p, List.mem_cons_of_mem _ hp, r⟩
/-- d[k] = v, the key's tuple at a -/
def stoL (L : KL) (k : NestedKey) (a : Addr) (v : V) : KL := if k ∈ L.map (·.1) then L.map (fun p => if p.1 = k then (p.1, p.2.1, v) else p) else L ++ [(k, a, v)]
theorem stoL_len (L : KL) (k : NestedKey) (a : Addr) (v : V) : (stoL L k a v).length ≤ L.length + 1 := by
  unfold stoL
  split
  · rw [List.length_map]
    exact Nat.le_succ _
  · rw [List.length_append]
    exact Nat.le_refl _
theorem atKey_some : ∀ {xs : List (NestedKey × Addr × Value)} {k : NestedKey}, (atKey xs k).isSome = decide (k ∈ xs.map (·.1))
  | [], k => by
    unfold atKey
    simp
  | x :: xs, k => by
    have ih := atKey_some (xs := xs) (k := k)
    unfold atKey at ih ⊢
    rw [List.find?_cons, List.map_cons]
    by_cases e : x.1 = k
    · simp [e]
    · have e' : ¬ k = x.1 := fun z => e z.symm
      simp only [e, decide_false]
      rw [ih]
      simp [e']
theorem kr_map {k : NestedKey} {v : V} {u : Value} (r : RelV v u) : ∀ {L : KL} {xs : List (NestedKey × Addr × Value)}, Paired KR L xs → Paired KR (L.map fun p => if p.1 = k then (p.1, p.2.1, v) else p) (xs.map (putAt k u))
  | _, _, .nil => .nil
  | _, _, .cons (a := p) (b := q) h t => by
    refine .cons ?_ (kr_map r t)
    show KR (if p.1 = k then (p.1, p.2.1, v) else p) (if q.1 = k then (q.1, q.2.1, u) else q)
    by_cases e : p.1 = k
    · rw [if_pos e, if_pos (h.1.trans e)]
      exact ⟨h.1, h.2.1, r⟩
    · rw [if_neg e, if_neg fun z => e (h.1.symm.trans z)]
      exact h
theorem kr_sto {L : KL} {xs : List (NestedKey × Addr × Value)} {k : NestedKey} {a : Addr} {v : V} {u : Value} (pr : Paired KR L xs) (r : RelV v u) : Paired KR (stoL L k a v) (storedH xs k a u) := by
  unfold stoL storedH
  rw [atKey_some, kr_keys pr]
  by_cases e : k ∈ L.map (·.1)
  · rw [if_pos e, if_pos (by rw [decide_eq_true_iff]; exact e)]
    exact kr_map r pr
  · rw [if_neg e, if_neg (by rw [decide_eq_true_iff]; exact e)]
    exact kr_app pr (.cons ⟨rfl, rfl, r⟩ .nil)
/-! ### data that are keys -/
mutual
theorem reads_key {h : Heap} : ∀ (k : NestedKey) (u : Value) (as : List Addr), Reads h u k.data as → NestedIs h k u
  | .none, _, _, r => by
    cases r
    exact .none
  | .num i, _, _, r => by
    cases r
    exact .int _ _
  | .text x, _, _, r => by
    cases r
    exact .text _ _
  | .tup ks, _, _, r => by
    have r : Reads h _ (.tuple (NestedKey.datas ks)) _ := r
    cases r with
    | tuple h1 h2 h3 h4 => exact .tup h1 h2 h3 (reads_keys ks _ _ h4)
theorem reads_keys {h : Heap} : ∀ (ks : List NestedKey) (us : List Value) (as : List Addr), ReadsAll h us (NestedKey.datas ks) as → NestedAll h ks us
  | [], _, _, r => by
    have r : ReadsAll h _ [] _ := r
    cases r
    exact .nil
  | k :: ks, _, _, r => by
    have r : ReadsAll h _ (k.data :: NestedKey.datas ks) _ := r
    cases r with
    | cons h1 h2 => exact .cons (reads_key k _ _ h1) (reads_keys ks _ _ h2)
end
section
variable {X : Cx} {pins : List (Addr × Obj)} {σ : St} {H : Hp} {s : Shared} {k : NestedKey} {a D : Addr} {v : V} {u r : Value} {L : KL}
theorem key_at (I : Inv X pins σ H s) (h : Dp X.K H v k.data) (rv : RelV v u) : NestedIs s.heap k u := by
  obtain ⟨as, z⟩ := Dp.reads I _ _ _ h rv
  exact reads_key k u as z
def KeysIn (K : PySem.W.Frag) (H : Hp) (L : KL) : Prop := ∀ p ∈ L, Dp K H (.ref p.2.1) p.1.data ∧ p.1.depth ≤ 8
theorem dic_full (I : Inv X pins σ H s) (R : DicR X.prog X.w s.heap D L) (hk : KeysIn X.K H L) : ∃ xs, Paired KR L xs ∧ s.heap.DictOfH (nestedKind X.prog X.w) D xs := by
  obtain ⟨_, _, xs, pr, o, es, ep, h1, h2, h3, h4, h5⟩ := R
  refine ⟨xs, pr, o, es, ep, h1, h2, h3, h4, fun x hx => ?_, h5⟩
  obtain ⟨p, hp, e1, e2, _⟩ := kr_mem pr x hx
  obtain ⟨z1, z2⟩ := hk p hp
  rw [e1, e2]
  exact ⟨key_at I z1 rfl, z2⟩
theorem dic_set {E : Value → Shared → Prop} {Q : Unit → Shared → Prop} (hu : X.A.units + 8 < cLine) (I : Inv X pins σ H s) (hD : H D = some (DicO X.prog X.w D L)) (hz : L.length < sizeLine) (hk : KeysIn X.K H L) (ha : Dp X.K H (.ref a) k.data) (hd : k.depth ≤ 8) (rv : RelV v r)
    (h : ∀ s', Inv X pins σ (upd H D (DicO X.prog X.w D (stoL L k a v))) s' → Q () s') : wpAny (model X.prog X.w) X.A (dictSet D (.ref a) r) Q E s := by
  have R := dic_of I.hok hD
  obtain ⟨xs, pr, dd⟩ := dic_full I R hk
  have hl : xs.length ≤ sizeLine := by rw [← Paired.length pr]; exact Nat.le_of_lt hz
  refine wpAny_dictSet_heap (knd := nestedKind X.prog X.w) hu ⟨key_at I ha rfl, hd⟩ dd (fun h' dd' sb => h _ ?_) hl
  obtain ⟨o, es, ep, h1, h2, h3, h4, _, h5⟩ := dd'
  refine d_write I (by rw [hD]; exact True.intro) sb ⟨o, h1⟩ (dic_ok ⟨R.1, ?_, _, kr_sto pr rv, o, es, ep, h1, h2, h3, h4, h5⟩)
  have := stoL_len L k a v
  omega
theorem dic_new {P : Program} {w : World} {h : Heap} (hb : sysModules < h.objs.size) : DicR P w (h.push { cls := .type "dict", data := .dict #[] }) h.objs.size [] :=
  ⟨beq_eq_false_iff_ne.mpr (Ne.symm (Nat.ne_of_lt hb)), Nat.zero_le _, [], .nil, _, #[], 0, Heap.get?_push_size _ rfl, ⟨rfl, rfl, rfl⟩, rfl, rfl, List.nodup_nil⟩
end
end L2
set_option maxHeartbeats 1000000
/-! {k: v for ..} whose keys are tuples of any depth -/
namespace L2
open PySem PySem.Spec PyProof.Rows AL
section
variable {X : Cx}
def tDcN (P : Program) (w : World) (K : PySem.W.Frag) (wi : TI) (g : TG) (tt : TT) (tk tv : TE) (vs : List Nat) : TE := fun σ H Q => wi σ H fun J H1 => ∀ D, H1 D = none →
  ∃ W : Nat → Nat → Hp → Prop, (∃ m, W 0 m (upd H1 D (DicO P w D []))) ∧ ∀ i m H, W i m H → (J.stop i H ∧ Q (.ref D) H) ∨ (J.go i H ∧ ∃ Nx : Hp → Prop, (∀ H', Nx H' → ∃ m', m' < m ∧ W (i + 1) m' H') ∧
    ∀ x H', J.yld i H x H' → g x (wipe σ vs) H' fun σ2 H2 => wipe σ2 vs = wipe σ vs ∧ tt σ2 H2 fun b H3 =>
      if b = true then tk σ2 H3 fun y H4 => tv σ2 H4 fun z H5 => ∃ L k a, y = V.ref a ∧ H5 D = some (DicO P w D L) ∧ L.length < sizeLine ∧ KeysIn K H5 L ∧ Dp K H5 (.ref a) k.data ∧ k.depth ≤ 8 ∧ Nx (upd H5 D (DicO P w D (stoL L k a z)))
      else Nx H3)
theorem dcN_core {pins : List (Addr × Obj)} {s : Shared} {σ : St} {H : Hp} {Q : VK} {kx vx tg iter : Expr} {ifs : List Expr} {scope : Scope} {own : List (Str × Nat)} {pos pos' : Pos} {wi : TI} {g : TG} {tt : TT} {tk tv : TE} {use : Option (Value → Sem Unit)} {Qf : Value → Shared → Prop}
    (hu : X.A.units + 8 < cLine) (hc : X.calm = true) (hN : X.N.Nodup) (I : Inv X pins σ H s) (hi : PI X tg iter wi) (ok : BlkOk X.N X.env.scope scope own)
    (hg : AllB X scope fun Y => PG Y tg g) (ht : AllB X scope fun Y => PTs Y ifs tt) (hk : AllB X scope fun Y => PE Y kx tk) (hv : AllB X scope fun Y => PE Y vx tv) (hs : ∀ x, foldedSetIterable iter X.env x = pure x) (h : tDcN X.prog X.w X.K wi g tt tk tv (own.map (·.2)) σ H Q)
    (fin0 : ∀ D C s' m H', Inv X pins σ H' s' → Q (.ref D) H' → s'.heap.Ns C m → FpOk X pins H' C → compPost (model X.prog X.w) X.A X.xe use Qf (.ref D) C (.ok .next) s') :
    wpAny (model X.prog X.w) X.A (comprehension (.DictComp kx vx [⟨tg, iter, ifs, 0⟩] scope pos) scope X.env pos' newDict false (eval iter X.env) use) Qf X.xe s := by
  have clo : ∀ y ∈ scope.names, y.2 = .free → ∃ c, X.env.cells.lookup y.1 = some c := fun y hy e => (ok.free y hy e).elim (fun z => I.ok.has _ (.inl z)) fun z => I.ok.has _ (.inr z)
  have lk : ∀ y ∈ scope.names, y.2 = .local → scope.names.lookup y.1 = some .local := fun y hy e => by rw [ok.uniq y hy, e]
  refine wpAny_comprehension_free (use := use) rfl hs (closure_ok clo) ok.kind lk (thn (hi.run pins s σ H _ I h) fun xv s1 hx => thn hx fun itv s2 r2 => ?_)
  obtain ⟨it, fp, tn, J, H2, rfl, I2, T, st2, f2, q⟩ := r2
  refine wpAny_newObj_type (newEnv_comp ?_)
  generalize hD : s2.heap.objs.size = D
  have le2 : s2.heap.objs.size ≤ D := Nat.le_of_eq hD
  obtain ⟨W, ⟨m0, w0⟩, turn⟩ := q D (I2.hok.fresh le2)
  -- the new dict
  generalize hs3 : ({ s2 with heap := s2.heap.push { cls := .type "dict", data := .dict #[] } } : Shared) = s3
  have h3 : s3.heap = s2.heap.push { cls := .type "dict", data := .dict #[] } := by rw [← hs3]
  generalize hH3 : upd H2 D (DicO X.prog X.w D []) = H3 at w0
  have I3 : Inv X pins σ H3 s3 := by
    rw [← hs3, ← hH3]
    refine I2.laid (t' := s2.toks) (fun b o e => Heap.get?_push_of_some _ e) le2 (dic_ok ?_)
    rw [← hD]
    exact dic_new I2.big
  have lt3 : ∀ b ∈ fp, b < s2.heap.objs.size := fun b hb => (T.obj _ _ st2 b hb).elim fun o e => Heap.lt_size e.1
  have f3 : ∀ b ∈ fp, FpOk X pins H3 b ∧ b < s3.heap.objs.size := fun b hb => by
    have l := lt3 b hb
    have n : H3 b = none := by
      rw [← hH3, upd_ne (by rw [← hD]; exact Nat.ne_of_lt l)]
      exact (f2 b hb).1
    refine ⟨⟨n, (f2 b hb).2⟩, ?_⟩
    rw [h3, Heap.size_push]
    exact Nat.lt_succ_of_lt l
  have I4 := block_start I3 ok hN f3
  have pg := hg s3 H3 s3.heap.objs.size (cellsFrom (s3.heap.objs.size + 1) scope.names (cloFrom X.env.cells scope.names [])) fp
  have pt := ht s3 H3 s3.heap.objs.size (cellsFrom (s3.heap.objs.size + 1) scope.names (cloFrom X.env.cells scope.names [])) fp
  have pk := hk s3 H3 s3.heap.objs.size (cellsFrom (s3.heap.objs.size + 1) scope.names (cloFrom X.env.cells scope.names [])) fp
  have pv := hv s3 H3 s3.heap.objs.size (cellsFrom (s3.heap.objs.size + 1) scope.names (cloFrom X.env.cells scope.names [])) fp
  show codeAny (model X.prog X.w) X.A (.compStart (.DictComp kx vx [⟨tg, iter, ifs, 0⟩] scope pos) 0 (.ref it) (.ref D) (compEnvC scope (cellsFrom (s3.heap.objs.size + 1) scope.names (cloFrom X.env.cells scope.names [])) s3.heap.objs.size X.env))
    (compPost (model X.prog X.w) X.A X.xe use Qf (.ref D) s3.heap.objs.size) { s3 with heap := pushCells (s3.heap.push { cls := .type "dict", data := .dict #[] }) scope.names }
  generalize hce : compEnvC scope (cellsFrom (s3.heap.objs.size + 1) scope.names (cloFrom X.env.cells scope.names [])) s3.heap.objs.size X.env = ce at I4 pg pt pk pv ⊢
  have cL : ce.locals = s3.heap.objs.size := by rw [← hce]; rfl
  generalize hs4 : ({ s3 with heap := pushCells (s3.heap.push { cls := .type "dict", data := .dict #[] }) scope.names } : Shared) = s4 at I4 ⊢
  have st3 : tn 0 s3.heap := T.keep _ _ _ st2 fun b _ o e => by
    rw [h3]
    exact Heap.get?_push_of_some _ e
  have st4 : tn 0 s4.heap := T.keep _ _ _ st3 fun b _ o e => by
    rw [← hs4]
    exact pushCells_keeps _ _ _ _ (Heap.get?_push_of_some _ e)
  have ff : ∀ {σ' : St} {H' : Hp} {s' : Shared}, Inv (X.blk s3 H3 scope ce fp) [] σ' H' s' → (∀ b ∈ fp, H' b = none) → ∀ b ∈ fp, FpOk (X.blk s3 H3 scope ce fp) [] H' b := fun I' n b hb =>
    ⟨n b hb, (I'.ok.exf b hb).1, I'.ok.exfs b hb, .inl hb, fun x c e => (I'.ok.exf b hb).2 x c e, fun p hp => absurd (show p ∈ ([] : List (Addr × Obj)) ++ [] from hp) (by simp)⟩
  have loop : codeAny (model X.prog X.w) X.A (.compLoop (.DictComp kx vx [⟨tg, iter, ifs, 0⟩] scope pos) 0 (.ref it) (.ref D) ce) (compPost (model X.prog X.w) X.A X.xe use Qf (.ref D) s3.heap.objs.size) s4 := by
    refine compLoop_anyD (fun n s' => ∃ i H', Inv (X.blk s3 H3 scope ce fp) [] (wipe σ (own.map (·.2))) H' s' ∧ tn i s'.heap ∧ (∀ b ∈ fp, H' b = none) ∧ W i n H') ?_ m0 ⟨0, H3, I4, st4, fun b hb => (f3 b hb).1.1, w0⟩
    rintro n s5 ⟨i, H5, I5, st5, n5, w5⟩
    rcases turn i n H5 w5 with ⟨stop, qq⟩ | ⟨go, Nx, hNx, step⟩
    · refine thnF (T.done (X.blk s3 H3 scope ce fp) rfl rfl rfl hc i [] s5 _ H5 (fun _ _ => False) I5 (ff I5 n5) st5 stop) fun r s6 ⟨hr, I6⟩ => ?_
      subst hr
      have I7 : Inv X pins σ H5 s6 := I3.call' (ch := fp) I6.os I6.base I6.hok I6.bare fun b hb => ⟨(f3 b hb).1.2.2.2.1, (f3 b hb).1.2.1, (f3 b hb).1.2.2.2.2.1, (f3 b hb).1.2.2.2.2.2⟩
      have nC : H5 s3.heap.objs.size = none := cL ▸ (show H5 ce.locals = none from I6.free)
      obtain ⟨mm, hn, _⟩ := I6.loc
      have hn : s6.heap.Ns s3.heap.objs.size mm := cL ▸ (show s6.heap.Ns ce.locals mm from hn)
      exact fin0 D s3.heap.objs.size s6 mm H5 I7 qq hn (I3.fpOk (Nat.le_refl _) nC)
    · refine thnF (T.item (X.blk s3 H3 scope ce fp) rfl rfl rfl hc i [] s5 _ H5 (fun _ _ => False) I5 (ff I5 n5) st5 go) fun r s6 ⟨u, hr, h6⟩ => ?_
      subst hr
      refine thnF h6 fun _ s7 ⟨x, H7, I7, r7, y7, st7, n7⟩ => ?_
      have Ip := I7.pinned (ff I7 n7) (T.obj _ _ st7)
      refine thnF (pg.run _ s7 _ H7 x u _ Ip r7 (step x H7 y7)) fun _ s8 ⟨σ8, H8, I8, hw8, q8⟩ => thnF (pt.run _ s8 σ8 H8 _ I8 q8) fun b s9 ⟨H9, I9, q9⟩ => ?_
      have fin : ∀ {s' : Shared} {H' : Hp}, Inv (X.blk s3 H3 scope ce fp) ([] ++ pinsAt fp s7.heap) σ8 H' s' → Nx H' → ∃ m, m < n ∧ ∃ i H', Inv (X.blk s3 H3 scope ce fp) [] (wipe σ (own.map (·.2))) H' s' ∧ tn i s'.heap ∧ (∀ b ∈ fp, H' b = none) ∧ W i m H' := fun {s' H'} I' nx => by
        obtain ⟨m', hm, w'⟩ := hNx H' nx
        have pin : ∀ b ∈ fp, ∀ o, s7.heap.get? b = some o → s'.heap.get? b = some o ∧ H' b = none := fun b hb o e => by
          have z := I'.pin (b, o) (List.mem_append_right _ (List.mem_append_right _ (mem_pinsAt hb e)))
          exact ⟨z.1, z.2.1⟩
        have hl : (wipe σ (own.map (·.2))).length = σ8.length := by rw [← hw8, wipe_length]
        refine ⟨m', hm, i + 1, H', (I'.unpinned (pins := [])).weak hl (fun j v e => ?_), T.keep _ _ _ st7 fun b hb o e => (pin b hb o e).1, fun b hb => ?_, w'⟩
        · exact (wipe_some (by rw [hw8]; exact e)).1
        · obtain ⟨o, e, _⟩ := T.obj _ _ st7 b hb
          exact (pin b hb o e).2
      cases b with
      | false => exact fin I9 (by simpa using q9)
      | true =>
        have q9 := (if_pos rfl).mp q9
        show wpAny _ _ _ _ _ _
        refine thnF (pk.run _ s9 σ8 H9 _ I9 q9) fun z1 s10 ⟨yk, H10, I10, r10, q10⟩ => thnF (pv.run _ s10 σ8 H10 _ I10 q10) fun z2 s11 ⟨yv, H11, I11, r11, q11⟩ => ?_
        obtain ⟨L, k, a, rfl, hD11, hz11, hk11, ha11, hd11, nx⟩ := q11
        cases r10
        exact dic_set (X := X.blk s3 H3 scope ce fp) hu I11 hD11 hz11 hk11 ha11 hd11 r11 fun s12 I12 => fin I12 nx
  exact codeAny_compStart_dict loop (T.self X.A 0 _ _ _ st4 loop)
theorem pe_dcN {kx vx tg iter : Expr} {ifs : List Expr} {scope : Scope} {own : List (Str × Nat)} {pos : Pos} {wi : TI} {g : TG} {tt : TT} {tk tv : TE} (hu : X.A.units + 8 < cLine) (hc : X.calm = true) (hN : X.N.Nodup) (hi : PI X tg iter wi) (ok : BlkOk X.N X.env.scope scope own)
    (hg : AllB X scope fun Y => PG Y tg g) (ht : AllB X scope fun Y => PTs Y ifs tt) (hk : AllB X scope fun Y => PE Y kx tk) (hv : AllB X scope fun Y => PE Y vx tv) (hs : ∀ x, foldedSetIterable iter X.env x = pure x := by intro _; rfl) :
    PE X (.DictComp kx vx [⟨tg, iter, ifs, 0⟩] scope pos) (tDcN X.prog X.w X.K wi g tt tk tv (own.map (·.2))) := by
  refine ⟨fun pins s σ H Q I h => ?_⟩
  rw [arm_eval_DictComp]
  refine dcN_core hu hc hN I hi ok hg ht hk hv hs h fun D C s' m H' I' q hn fp => ⟨m, hn, fun h'' sb => ?_⟩
  obtain ⟨g0, g1, g2, g3, g4, g5⟩ := fp
  exact ⟨.ref D, H', I'.turned (t' := s'.toks) (fun b o hb e => (sb.2 b hb).trans e) g0 g1 g3 g4 g5, rfl, q⟩
/-- y = {k: v for ..} on one row, y a local -/
theorem ps_setDcN {i : Nat} {y : Str} {py : Pos} {kx vx tg iter : Expr} {ifs : List Expr} {scope : Scope} {own : List (Str × Nat)} {pos spos : Pos} {wi : TI} {g : TG} {tt : TT} {tk tv : TE} (hu : X.A.units + 8 < cLine) (hc : X.calm = true) (hN : X.N.Nodup) (hy : X.N[i]? = some y) (hyl : X.env.scope.names.lookup y = some .local)
    (hsw : swapsWith (.DictComp kx vx [⟨tg, iter, ifs, 0⟩] scope pos) (some (.Name y py)) spos.line X.env = pure true) (hi : PI X tg iter wi) (ok : BlkOk X.N X.env.scope scope own)
    (hg : AllB X scope fun Y => PG Y tg g) (ht : AllB X scope fun Y => PTs Y ifs tt) (hk : AllB X scope fun Y => PE Y kx tk) (hv : AllB X scope fun Y => PE Y vx tv) (hs : ∀ x, foldedSetIterable iter X.env x = pure x := by intro _; rfl) :
    PS X (.Assign [.Name y py] (.DictComp kx vx [⟨tg, iter, ifs, 0⟩] scope pos) spos) (tAsg (tDcN X.prog X.w X.K wi g tt tk tv (own.map (·.2))) (gName i)) := by
  refine ⟨fun pins s σ H D I h => ?_⟩
  rw [exec_Assign_Name_used _ _ _ _ hsw]
  refine wpAny_bind (wpAny_standAt (wpAny_bind ?_))
  show wpAny _ X.A (do let _ ← comprehension (.DictComp kx vx [⟨tg, iter, ifs, 0⟩] scope pos) scope X.env (firstIterPos [⟨tg, iter, ifs, 0⟩] pos) newDict false (eval iter X.env) (some (assign (.Name y py) X.env))) _ _ s
  have h : tDcN X.prog X.w X.K wi g tt tk tv (own.map (·.2)) σ H (fun x H1 => gName i x σ H1 D.nx) := h
  refine wpAny_bind (thn (dcN_core (Qf := fun _ s' => SP X pins D .next s') hu hc hN I hi ok hg ht hk hv hs h fun L C s' m H' I' q hn fp => ?_) fun _ s' hq => wpAny_pure (wpAny_pure hq))
  show wpAny _ _ (assign (.Name y py) X.env (.ref L)) _ _ _
  obtain ⟨g0, g1, g2, g3, g4, g5⟩ := fp
  refine wpAny_assign_Name (store_ok2 (v := V.ref L) I' hN hy (.inl hyl) rfl (fun s2 I2 ⟨a, sb, ha⟩ => ?_) (.inr hyl))
  have ne : C ≠ a := ha.elim (fun z => by rw [z]; exact g1) fun z e => g4 y a z e.symm
  exact ⟨m, hn.sameBut sb ne, fun h3 sb3 => ⟨_, H', I2.turned (t' := s2.toks) (fun b o hb e => (sb3.2 b hb).trans e) g0 g1 g3 g4 g5, q⟩⟩
theorem sw_dc {kx vx : Expr} {gs : List Comprehension} {scope : Scope} {pos py : Pos} {y : Str} {l : Nat} {env : Env} (hk : env.scope.kind = .function) (hy : env.scope.names.lookup y = some .local) (hl : (py.line == pos.line) = true)
    (ha : (scope.names.any fun (n, k) => n == y && (k == .local || k == .cell)) = false) : swapsWith (.DictComp kx vx gs scope pos) (some (.Name y py)) l env = pure true := by
  have hb : env.blockKind = .function := by
    unfold Env.blockKind
    rw [hk]
    rfl
  unfold swapsWith
  simp only [hb, show env.kindOf y = some .local from hy, ha, Expr.pos, hl]
  rfl
end
end L2
set_option maxHeartbeats 1000000
/-! a key (len(x), x) by a def: it keeps all that was there -/
namespace L2
open PySem PySem.Spec PyProof.Rows AL Evl
mutual
theorem reads_nil {h : Heap} : ∀ (k : NestedKey) (u : Value) (as : List Addr), Reads h u k.data as → as = []
  | .none, _, _, r => by
    cases r
    rfl
  | .num i, _, _, r => by
    cases r
    rfl
  | .text x, _, _, r => by
    cases r
    rfl
  | .tup ks, _, _, r => by
    have r : Reads h _ (.tuple (NestedKey.datas ks)) _ := r
    cases r with
    | tuple h1 h2 h3 h4 => exact reads_nils ks _ _ h4
theorem reads_nils {h : Heap} : ∀ (ks : List NestedKey) (us : List Value) (as : List Addr), ReadsAll h us (NestedKey.datas ks) as → as = []
  | [], _, _, r => by
    have r : ReadsAll h _ [] _ := r
    cases r
    rfl
  | k :: ks, _, _, r => by
    have r : ReadsAll h _ (k.data :: NestedKey.datas ks) _ := r
    cases r with
    | cons h1 h2 => rw [reads_nil k _ _ h1, reads_nils ks _ _ h2]; rfl
end
/-- (len(x), x) -/
def lenKey (ks : List NestedKey) : PyData := .tuple [.int (ks.length : Nat), .tuple (NestedKey.datas ks)]
theorem datas_len : ∀ ks : List NestedKey, (NestedKey.datas ks).length = ks.length
  | [] => rfl
  | k :: ks => by
    show (k.data :: NestedKey.datas ks).length = _
    rw [List.length_cons, List.length_cons, datas_len ks]
/-- what a call gives: all is kept, the key's tuple is new -/
def NewKey (n : Nat) (a : Addr) (s₁ : Shared) (v : Value) (s₂ : Shared) : Prop := ∃ (h' : Heap) (tk t : Nat) (u : Tok), s₂ = { s₁ with heap := h', toks := tk } ∧ (∀ b o, s₁.heap.get? b = some o → h'.get? b = some o) ∧ v = .ref t ∧ s₁.heap.get? t = none ∧
  h'.get? t = some { cls := .type "tuple", data := .seq #[.int (n : Nat) u, .ref a] }
structure KeyFn (P : Program) (w : World) (K : PySem.W.Frag) (mg : Str → Option Value) (base : Heap) (x : Str) : Prop where
  ex : ∃ f, mg x = some (.ref f) ∧ PySem.W.keepIn K (.ref f) = true ∧ ∀ (A : Around) (outer : List PySem.Env) (s : Shared) (H : Hp) (a : Addr) (ks : List NestedKey), Room 1 A → Env0 P w K mg base A outer s H → Dp K H (.ref a) (.tuple (NestedKey.datas ks)) →
    wpAny (model P w) A (call (.ref f) [.ref a]) (NewKey ks.length a s) (fun _ _ => False) s
theorem keyFn_of {P : Program} {w : World} {K : PySem.W.Frag} {mg : Str → Option Value} {base : Heap} {x y : Str} {st : Stmt} {f : Addr} {fd : FuncData} {p1 p2 p3 p4 p5 p6 : Pos} {kk : Nat} (F : L2.Fun K x x st f fd) (hm : mg x = some (.ref f))
    (hb : Binds K fd [y] []) (S : FnScope [y] [y] (defScope st)) (hbody : defBody st = [.Return (some (.Tuple [.Call (.Name "len" p1) [.Name y p2] [] p3, .Name y p4] kk p5)) p6]) (hlen0 : mg "len" = none)
    (hg : (defScope st).names.lookup ("len" : Str) = some .globalImplicit) (hy : (defScope st).names.lookup y = some .local) (hd1 : (y == ("__debug__" : Str)) = false) (hd2 : (y == ("__classdict__" : Str)) = false) : KeyFn P w K mg base x := by
  refine ⟨f, hm, F.kp, fun A outer s H a ks hr e0 hd => ?_⟩
  obtain ⟨oc, od, kV, doc, pm, an, cdv, ct, osl, rfl, lk, hcd⟩ := F.ex
  have KX : K.In s.heap := e0.mod.kin.keeps fun b o e => (e0.bs b o e).1
  have lim : s.heap.NoLimit := e0.mod.nolimit.keeps fun b o e => (e0.bs b o e).1
  refine wpAny_call ?_
  have hk : ∀ z ∈ [y].zip [Value.ref a], (defScope st).names.lookup z.1 = some .local ∨ ((defScope st).names.lookup z.1 = some .cell ∧ ((cellsFrom (s.heap.objs.size + 1) (defScope st).names []).lookup z.1).isSome = true) := fun z hz => by
    have : z = (y, Value.ref a) := by simpa using hz
    subst this
    exact .inl hy
  refine codeAny_call_function hr.depth (KX _ _ lk) rfl S.co S.gen rfl (PySem.W.codeRec_of KX hcd) (hb s [.ref a] KX rfl _ _ _ _ ?_)
  refine wpAny_newFunctionEnv_cells S.kind hk fun env he s1 x1 => ?_
  subst he
  refine ⟨lim.keeps x1.toInCall.keep, codeAny_func ?_⟩
  have I : Inv (cxOf (L2.CX P w) P w K mg base [y] x (defScope st) f cdv A outer s H E0) [] (start [y] [V.ref a]) H s1 := inv_start S hr.hd e0 rfl (.cons rfl .nil) x1
  rw [hbody]
  obtain ⟨h1, tk1, rfl, kp⟩ := x1.done
  have hI : ∀ t, Inv (cxOf (L2.CX P w) P w K mg base [y] x (defScope st) f cdv A outer s H E0) [] (start [y] [V.ref a]) H { s with heap := h1, toks := t } := fun t => I.tok t
  have ld : ∀ {t : Nat} {pos : Pos} {E : Value → Shared → Prop} {Q : Value → Shared → Prop}, Q (.ref a) { s with heap := h1, toks := t } → wpAny (model P w) (A.deeper (envOfC x (defScope st) s.heap.objs.size f cdv)) (eval (.Name y pos) (envOfC x (defScope st) s.heap.objs.size f cdv)) Q E { s with heap := h1, toks := t } := fun {t pos E Q} q => by
    have It := hI t
    obtain ⟨m, hn, hl⟩ := It.loc
    obtain ⟨u, r, l⟩ := hl 0 y (.ref a) rfl rfl (.inl hy)
    cases r
    rcases l with ⟨hk, hm⟩ | ⟨hk, _⟩
    · exact wpAny_Name (wpAny_loadName_local It.ok.kind hk hn hm q) hd1
    · exact absurd hy (by rcases hk with hk | hk <;> rw [show (defScope st).names.lookup y = _ from hk] <;> exact fun z => nomatch z)
  obtain ⟨as, rd⟩ := Dp.reads I _ _ _ hd (show RelV (.ref a) (.ref a) from rfl)
  have e0 : as = [] := reads_nil (.tup ks) _ _ rd
  subst e0
  cases rd with
  | @tuple _ o vs n _ _ g1 g2 g3 g4 =>
  have hlen : vs.size = ks.length := by
    have := SeqAt.ReadsAll.length _ _ _ g4
    rw [datas_len] at this
    simpa using this
  have hls : ks.length ≤ sizeLine := by
    cases hd with
    | tup hs ha =>
      obtain ⟨its, r, ht, hz⟩ := I.tuple hs
      obtain ⟨as2, ra⟩ := Dp.readsAll I _ _ _ ha r
      have l1 := SeqAt.ReadsAll.length _ _ _ ra
      have l2 := r.length
      rw [datas_len] at l1
      omega
  refine wpAny_execs_cons (wpAny_Return_some (wpAny_Tuple_spliced ?_))
  show wpAny _ _ (spliced ((false, eval (.Call (.Name "len" p1) [.Name y p2] [] p3) _) :: (false, eval (.Name y p4) _) :: [])) _ _ _
  refine Calls.spliced_cons (wpAny_Call_Name_kw (ld_blt (hI tk1) hg hlen0 rfl ?_))
  refine PyProof.Rows.callWith_builtin1 (Calls.spliced_cons (ld (Calls.spliced_nil ?_))) rfl rfl
  refine len_tuple ⟨o, g1, g2, n, g3⟩ (by rw [hlen, sizeLine_eq] at *; omega) ?_
  refine Calls.spliced_cons (ld (Calls.spliced_nil ⟨by show 2 ≤ sizeLine; decide, ?_⟩))
  have fr : s.heap.get? h1.objs.size = none := by
    cases z : s.heap.get? h1.objs.size with
    | none => rfl
    | some ob => exact absurd (Heap.lt_size (kp _ _ z)) (Nat.lt_irrefl _)
  exact ⟨_, _, _, _, rfl, fun b ob q => Heap.get?_push_of_some _ (kp b ob q), rfl, fr, by rw [hlen]; exact Heap.get?_push_size _ rfl⟩
/-- the key as data -/
theorem newKey_reads {X : Cx} {pins : List (Addr × Obj)} {σ : St} {H : Hp} {s : Shared} {a t : Addr} {ks : List NestedKey} {u : Tok} (I : Inv X pins σ H s) (hd : Dp X.K H (.ref a) (.tuple (NestedKey.datas ks)))
    (ht : s.heap.get? t = some { cls := .type "tuple", data := .seq #[.int (ks.length : Nat) u, .ref a] }) : Reads s.heap (.ref t) (lenKey ks) [] := by
  obtain ⟨as, r⟩ := Dp.reads I _ _ _ hd (show RelV (.ref a) (.ref a) from rfl)
  have e : as = [] := reads_nil (.tup ks) _ _ r
  subst e
  have key : ReadsAll s.heap [Value.int (ks.length : Nat) u, Value.ref a] [.int (ks.length : Nat), .tuple (NestedKey.datas ks)] [] := .cons (as := []) (bs := []) (.int _ _) (.cons (as := []) (bs := []) r .nil)
  exact Reads.tuple ht rfl rfl key
end L2
set_option maxHeartbeats 1000000
/-! sorted(xs, key=f) by such a key; list(d) -/
namespace L2
open PySem PySem.Spec PyProof.Rows AL Evl
section
variable {X : Cx}
def trK (d : D) : List NestedKey := match keyD d with
  | some (.tup ks) => ks
  | _ => []
def dKey (d : D) : PyData := lenKey (trK d)
abbrev sortD (ds : List D) : List D := ds.mergeSort (PySem.W.dataLe false dKey)
def rSortKey (K : PySem.W.Frag) (f : Addr) : List V → List V → Hp → VK → Prop := fun vs zs H Q => ∃ (a : Addr) (xs : List V) (ds : List D) (Rl : V → D → Prop), vs = [V.ref a] ∧ zs = [V.ref f] ∧ SqL K H a xs ∧ PySem.W.EachIs Rl xs ds ∧
  (∀ v d, Rl v d → d ∈ ds → ∃ t, v = V.ref t ∧ Dp K H (.ref t) (.tuple (NestedKey.datas (trK d)))) ∧ (∀ d ∈ ds, ∀ e ∈ ds, PySem.W.alike (dKey d) (dKey e) = true) ∧ (∀ d ∈ ds, (dKey d).depth ≤ 60) ∧
  ∀ (p : Addr) (ys : List V), H p = none → PySem.W.EachIs Rl ys (sortD ds) → Q (.ref p) (upd H p (.lst ys))
theorem each_vals {Rl : V → D → Prop} : ∀ {xs : List V} {us : List Value} {ds : List D}, Vals xs us → PySem.W.EachIs Rl xs ds → PySem.W.EachIs (fun u d => ∃ x, RelV x u ∧ Rl x d) us ds
  | _, _, _, .nil, .nil => .nil
  | _, _, _, .cons r t, .cons h k => .cons ⟨_, r, h⟩ (each_vals t k)
theorem vals_each {Rl : V → D → Prop} : ∀ {us : List Value} {ds : List D}, PySem.W.EachIs (fun u d => ∃ x, RelV x u ∧ Rl x d) us ds → ∃ xs, Vals xs us ∧ PySem.W.EachIs Rl xs ds
  | _, _, .nil => ⟨[], .nil, .nil⟩
  | _, _, .cons ⟨x, r, h⟩ k => by
    obtain ⟨xs, a, b⟩ := vals_each k
    exact ⟨x :: xs, .cons r a, .cons h b⟩
theorem cr_sortKey {x : Str} {f : Addr} (hr : Room 3 X.A) (hf : ∀ (A : Around) (outer : List PySem.Env) (s : Shared) (H : Hp) (a : Addr) (ks : List NestedKey), Room 1 A → Env0 X.prog X.w X.K X.mg X.base A outer s H → Dp X.K H (.ref a) (.tuple (NestedKey.datas ks)) →
    wpAny (model X.prog X.w) A (call (.ref f) [.ref a]) (NewKey ks.length a s) (fun _ _ => False) s) : CallRK X (.builtin "sorted") [Str.ofString "key"] (rSortKey X.K f) := by
  intro pins s σ H vs zs us ws Q I r rz h
  obtain ⟨a, xs, ds, Rl, rfl, rfl, hs, he, hD, hal, hdp, q⟩ := h
  obtain rfl := Vals.ref1 r
  obtain ⟨w1, rfl, e1⟩ := vals1 rz
  obtain rfl : w1 = Value.ref f := e1
  obtain ⟨its, rv, hl, hz⟩ := I.list hs
  have e := each_vals rv he
  have len : its.length = ds.length := e.length
  have hL : ds.length ≤ sizeLine := by
    have := rv.length
    omega
  have al : PySem.W.AllAlike (ds.map dKey) := fun y hy z hz => by
    obtain ⟨d, hd, rfl⟩ := List.mem_map.mp hy
    obtain ⟨d', hd', rfl⟩ := List.mem_map.mp hz
    exact hal d hd d' hd'
  have un := hr.un
  refine PySem.W.sorted_key_data (b := false) dKey hl.isList e al (PySem.W.Sortable.tuples fun d => ⟨_, _, rfl⟩) hL (fun d hd => by have := hdp d hd; omega) (PyProof.Rows.ksk_s1 _ _) (fun _ => PyProof.Rows.ksk_l1 _ _) (fun _ => PyProof.Rows.ksk_t1 _ _) ?_ ?_
  · intro v d ⟨y, ry, hy⟩ hd h tk kp
    obtain ⟨t, rfl, hdt⟩ := hD y d hy hd
    cases ry
    have I1 : Inv X pins σ H { s with heap := h, toks := tk } := I.kept (t' := tk) kp
    refine wpAny_mono (hf X.A.in1.in1 X.stack _ H t (trK d) hr.in1.in1 I1.env0.in1.in1 hdt) (fun u s2 z => ?_) fun _ _ z => z
    obtain ⟨h', tk', t', tu, rfl, kp', rfl, _, ht⟩ := z
    exact ⟨h', tk', rfl, kp', newKey_reads (I1.kept (t' := tk') kp') hdt ht⟩
  · intro out c h' tk kp fr hn hlen ho
    obtain ⟨ys, ry, ey⟩ := vals_each ho
    have I1 : Inv X pins σ (upd H (s.heap.objs.size + 1) (.lst ys)) { s with heap := h', toks := tk } := by
      refine I.laid (t' := tk) kp (Nat.le_succ _) ?_
      refine ⟨?_, out, c, ry, hn⟩
      have := ry.length
      omega
    exact ⟨.ref _, _, I1, rfl, q _ ys (I.hok.fresh (Nat.le_succ _)) ey⟩
end
end L2
set_option maxHeartbeats 1000000
/-! sorted by such a key, list(d), over data -/
namespace L2
open PySem PySem.Spec PyProof.Rows AL Evl
theorem vals_rf : ∀ {L : KL} {xs : List (NestedKey × Addr × Value)}, Paired KR L xs → Vals (L.map fun q => V.ref q.2.1) (xs.map fun x => Value.ref x.2.1)
  | _, _, .nil => .nil
  | _, _, .cons h t => .cons (by show Value.ref _ = Value.ref _; rw [h.2.1]) (vals_rf t)
section
variable {X : Cx}
theorem call_list_dN (hc : X.calm = true) : CallR X (.type "list") (fun xs H Q => ∃ d L, xs = [V.ref d] ∧ H d = some (DicO X.prog X.w d L) ∧ ∀ p, H p = none → Q (.ref p) (upd H p (.lst (L.map fun q => V.ref q.2.1)))) := by
  intro pins s σ H xs us Q I r h
  obtain ⟨d, L, rfl, hd, q⟩ := h
  obtain rfl := Vals.ref1 r
  obtain ⟨hs, hz, ks, pr, o, es, ep, ho, hx, hdt, he, hn⟩ := dic_of I.hok hd
  have l1 : es.size = ks.length := size_of_entries he
  have l2 : L.length = ks.length := Paired.length pr
  refine PySem.W.kdl_call (kdl_raw hs hx hdt) (I.ok.hd hc) ho (by omega) fun h' tk acc c kp e it => ?_
  have ea : acc.toList = ks.map fun x => Value.ref x.2.1 := by
    have hl : acc.toList.length = ks.length := by rw [Array.length_toList, it.1, l1]
    refine List.ext_getElem (by rw [hl, List.length_map]) fun j h1 h2 => ?_
    obtain ⟨en, hen, hv⟩ := it.2 j acc.toList[j] (by rw [← Array.getElem?_toList, List.getElem?_eq_getElem h1])
    have hj : j < ks.length := by rw [← hl]; exact h1
    have qe := entry_at he j
    rw [hen, List.getElem?_eq_getElem hj] at qe
    have e2 : en = entryOfKey (nestedKind X.prog X.w) ks[j] := Option.some.inj qe
    rw [hv, e2, List.getElem_map]
    rfl
  have rv : Vals (L.map fun q => V.ref q.2.1) acc.toList := by
    rw [ea]
    exact vals_rf pr
  refine ⟨.ref s.heap.objs.size, _, I.laid (t' := tk) (o := .lst (L.map fun q => V.ref q.2.1)) kp (Nat.le_refl _) ?_, rfl, q _ (I.hok.fresh (Nat.le_refl _))⟩
  exact ⟨by rw [List.length_map]; exact hz, acc.toList, c, rv, by rw [Array.toArray_toList]; exact e⟩
end
end L2
namespace AL
open PySem L2 Evl
section
variable {X : Cx} {S0 : Hp} {a b c e o : Expr} {es : List Expr} {kws : List Keyword} {fa fb fc fe : Ab} {ft fu : AbT} {fs fr : AbA} {pos p p2 kp : Pos} {K : PySem.W.Frag} {k : Nat} {x : Str} {P : Program} {w : World}
mutual
theorem keyD_py : ∀ (d : D) (k : NestedKey), keyD d = some k → pyD d = some k.data
  | .non, k, h => by
    cases h
    rfl
  | .int i, k, h => by
    cases h
    rfl
  | .str z, k, h => by
    cases h
    rfl
  | .tup ds, k, h => by
    have h : (match keyDs ds with
      | some ks => some (NestedKey.tup ks)
      | none => none) = some k := h
    cases e : keyDs ds with
    | none =>
      rw [e] at h
      cases h
    | some ks =>
      rw [e] at h
      cases h
      show (match pyDs ds with
        | some xs => some (PyData.tuple xs)
        | none => none) = some (.tuple (NestedKey.datas ks))
      rw [keyDs_py ds ks e]
  | .bl _, k, h => by cases h
  | .box _, k, h => by cases h
  | .ty _, k, h => by cases h
  | .lst _, k, h => by cases h
  | .scr _, k, h => by cases h
theorem keyDs_py : ∀ (ds : List D) (ks : List NestedKey), keyDs ds = some ks → pyDs ds = some (NestedKey.datas ks)
  | [], ks, h => by
    cases h
    rfl
  | d :: ds, ks, h => by
    have h : (match keyD d with
      | some k => (match keyDs ds with
        | some ks => some (k :: ks)
        | none => none)
      | none => none) = some ks := h
    cases e : keyD d with
    | none =>
      rw [e] at h
      cases h
    | some k =>
      rw [e] at h
      cases e2 : keyDs ds with
      | none =>
        rw [e2] at h
        cases h
      | some ls =>
        rw [e2] at h
        cases h
        show (match pyD d with
          | some x => (match pyDs ds with
            | some xs => some (x :: xs)
            | none => none)
          | none => none) = some (k.data :: NestedKey.datas ls)
        rw [keyD_py d k e, keyDs_py ds ls e2]
end
theorem key_dp {S H : Hp} (up : Ex S H) {d : D} {v : V} {k : NestedKey} (h : Den K S d v) (e : keyD d = some k) : Dp K H v k.data := pyD_den up d v _ h (keyD_py d k e)
/-- a tuple that is a key -/
theorem key_tup {S : Hp} {d : D} {v : V} {ks : List NestedKey} (h : Den K S d v) (e : keyD d = some (.tup ks)) : ∃ t, v = .ref t := by
  cases d with
  | tup ds =>
    obtain ⟨a, vs, rfl, _⟩ := h
    exact ⟨a, rfl⟩
  | non => cases e
  | int i => cases e
  | str z => cases e
  | _ => cases e
theorem trK_of {d : D} {ks : List NestedKey} (e : keyD d = some (.tup ks)) : trK d = ks := by
  unfold trK
  rw [e]
theorem den_each {S : Hp} : ∀ {ds : List D} {vs : List V}, DenL K S ds vs → PySem.W.EachIs (fun v d => Den K S d v) vs ds
  | [], _, h => by
    rw [show _ = [] from h]
    exact .nil
  | d :: ds, _, ⟨v, r, h1, h2, h3⟩ => by
    subst h1
    exact .cons h2 (den_each h3)
theorem each_den {S : Hp} : ∀ {ds : List D} {vs : List V}, PySem.W.EachIs (fun v d => Den K S d v) vs ds → DenL K S ds vs
  | _, _, .nil => rfl
  | _, _, .cons h t => ⟨_, _, rfl, h, each_den t⟩
/-- sorted(xs, key=f), f(x) = (len(x), x) -/
def fSortK : List D → Mu → PD → Prop := fun xs m P => match xs with
  | [d] => match lstOf m d with
    | some ds => (∀ e ∈ ds, ∃ ks, keyD e = some (.tup ks)) ∧ (∀ e ∈ ds, ∀ e' ∈ ds, PySem.W.alike (dKey e) (dKey e') = true) ∧ (∀ e ∈ ds, (dKey e).depth ≤ 60) ∧ P (.lst (sortD ds)) m
    | none => False
  | _ => False
theorem ae_sortK {f : Str} {pf : Pos} (G : KeyFn X.prog X.w X.K X.mg X.base f) (hr : Room 3 X.A) (hm : X.mg "sorted" = none) (ha : AA X S0 [a] fs) (hg : Gl X "sorted" := by rfl) (hgf : Gl X f := by rfl) (hdf : (f == ("__debug__" : Str)) = false := by decide)
    (he : backTo pos (starEach [a] X.env) = (false, eval a X.env) :: backTo pos (starEach [] X.env) := by rfl) (hpl : (backTo pos (starEach [a] X.env)).any (·.1) = false := by rfl)
    (hall : (backToKw pos (keywordEach [⟨some "key", .Name f pf, kp⟩] X.env)).all (·.1.isSome) = true := by rfl) (hnone : (backToKw pos (keywordEach [⟨some "key", .Name f pf, kp⟩] X.env)).any (·.1.isNone) = false := by rfl)
    (hks : (backToKw pos (keywordEach [⟨some "key", .Name f pf, kp⟩] X.env)).filterMap (·.1) = [Str.ofString "key"] := by rfl) :
    AE X S0 (.Call (.Name "sorted" p) [a] [⟨some "key", .Name f pf, kp⟩] pos) (aCa fSortK fs) := by
  obtain ⟨q, hq, _, hf⟩ := G.ex
  obtain ⟨t, pt, s⟩ := ha.ex
  refine ⟨_, pe_callBK (cr_sortKey (x := f) hr hf) hg hm (by decide +kernel) pt (pk_cons (pe_glob hgf hq (show RelV (.ref q) (.ref q) from rfl) hdf) pk_nil) (by decide) (by decide) he hpl hall hnone hks, fun g m P h st H rp e0 en Q qq => ?_⟩
  refine s g m _ h st H rp e0 en _ fun vs H1 ds m1 h1 p1 d1 => ?_
  match ds, h1 with
  | [d], h1 =>
    have h1 : (match lstOf m1 d with
      | some ds => (∀ e ∈ ds, ∃ ks, keyD e = some (.tup ks)) ∧ (∀ e ∈ ds, ∀ e' ∈ ds, PySem.W.alike (dKey e) (dKey e') = true) ∧ (∀ e ∈ ds, (dKey e).depth ≤ 60) ∧ P (.lst (sortD ds)) m1
      | none => False) := h1
    cases e : lstOf m1 d with
    | none =>
      rw [e] at h1
      exact h1.elim
    | some ds =>
      rw [e] at h1
      obtain ⟨k1, k2, k3, h1⟩ := h1
      obtain ⟨v, rfl, dv⟩ := den1 d1
      obtain ⟨r, us, rfl, hv, du⟩ := lst_den p1.1 dv e
      refine ⟨r, us, ds, fun v d => Den X.K (R m1 H1) d v, rfl, rfl, sq_of hv, den_each du, fun v d hd hm => ?_, k2, k3, fun l ys hl ey => ?_⟩
      · obtain ⟨ks, ek⟩ := k1 d hm
        obtain ⟨t, rfl⟩ := key_tup hd ek
        rw [trK_of ek]
        exact ⟨t, rfl, key_dp (fun b o z => (R_of z).2) hd ek⟩
      · obtain ⟨p2, hr⟩ := Po.new (o := .lst ys) p1.1 hl
        exact qq _ _ (.lst (sortD ds)) m1 h1 (p1.trans p2) ⟨l, ys, rfl, hr, DenL.mono p2.2 _ _ (each_den ey)⟩
/-- list(d): the keys -/
def fListK (P : Program) (w : World) : List D → Mu → PD → Prop := fun xs m Q => match xs with
  | [.box p] => ∃ kvs, m p = some (.dic (DicO P w p) kvs) ∧ Q (.lst (kvs.map fun q => q.2.1)) m
  | _ => False
theorem ae_listK (hc : X.calm = true) (hm : X.mg "list" = none) (ha : AA X S0 (e :: es) fs) (hg : Gl X "list" := by rfl) (he : starEach (e :: es) X.env = (false, eval e X.env) :: starEach es X.env := by rfl) (hpl : (backTo pos (starEach es X.env)).any (·.1) = false := by rfl) :
    AE X S0 (.Call (.Name "list" p) (e :: es) [] pos) (aCa (fListK X.prog X.w) fs) := by
  refine ae_ct (call_list_dN hc) (fun xs m Q h vs H rp dl R2 q => ?_) hg hm (by decide +kernel) ha (by decide) (by decide) he hpl
  match xs, h with
  | [.box r], h =>
    obtain ⟨kvs, hk, h⟩ := h
    obtain ⟨v, rfl, dv⟩ := den1 dl
    cases dv
    obtain ⟨L, hL, dk⟩ := rp r _ hk
    refine ⟨r, L, rfl, hL, fun l hl => ?_⟩
    obtain ⟨p2, hr⟩ := Po.new (o := .lst (L.map fun q => V.ref q.2.1)) rp hl
    exact q _ _ _ m h p2 ⟨l, _, rfl, hr, DenL.mono p2.2 _ _ dk.refs⟩
end
end AL
set_option maxHeartbeats 1000000
/-! {k: v for x in xs}, the keys tuples -/
namespace AL
open PySem L2 Evl
section
variable {X : Cx} {S0 : Hp} {a b c e o kx vx : Expr} {es ifs : List Expr} {fa fb fc fe fk fv : Ab} {ft fu : AbT} {fs fr : AbA} {pos p p2 kp : Pos} {K : PySem.W.Frag} {k : Nat} {x : Str} {P : Program} {w : World} {scope : Scope} {own : List (Str × Nat)}
abbrev KD := List (NestedKey × D × D)
/-- d[k] = v -/
def stoD (L : KD) (k : NestedKey) (kd vd : D) : KD := if k ∈ L.map (·.1) then L.map (fun p => if p.1 = k then (p.1, p.2.1, vd) else p) else L ++ [(k, kd, vd)]
theorem denK_map {S : Hp} {k : NestedKey} {vd : D} {v : V} (hv : Den K S vd v) : ∀ {ps : KD} {L : KL}, DenK K S ps L → DenK K S (ps.map fun p => if p.1 = k then (p.1, p.2.1, vd) else p) (L.map fun p => if p.1 = k then (p.1, p.2.1, v) else p)
  | [], _, h => by
    rw [show _ = [] from h]
    rfl
  | p :: ps, _, ⟨q, r, h1, h2, h3, h4, h5, h6⟩ => by
    subst h1
    rw [List.map_cons, List.map_cons]
    by_cases e : p.1 = k
    · rw [if_pos e, if_pos (h2.trans e)]
      exact ⟨_, _, rfl, h2, h3, h4, hv, denK_map hv h6⟩
    · rw [if_neg e, if_neg fun z => e (h2.symm.trans z)]
      exact ⟨_, _, rfl, h2, h3, h4, h5, denK_map hv h6⟩
theorem denK_sto {S : Hp} {k : NestedKey} {kd vd : D} {v : V} {a : Addr} {ps : KD} {L : KL} (h : DenK K S ps L) (ek : keyD kd = some k) (hk : Den K S kd (.ref a)) (hv : Den K S vd v) : DenK K S (stoD ps k kd vd) (stoL L k a v) := by
  unfold stoD stoL
  rw [h.keys]
  by_cases e : k ∈ ps.map (·.1)
  · rw [if_pos e, if_pos e]
    exact denK_map hv h
  · rw [if_neg e, if_neg e]
    exact h.app ⟨_, [], rfl, rfl, ek, hk, hv, rfl⟩
theorem denK_keys {S H : Hp} (up : Ex S H) : ∀ {ps : KD} {L : KL}, DenK K S ps L → (∀ q ∈ ps, q.1.depth ≤ 8) → KeysIn K H L
  | [], _, h, _ => by
    rw [show _ = [] from h]
    exact fun p hp => absurd hp (by simp)
  | p :: ps, _, ⟨q, r, h1, h2, h3, h4, h5, h6⟩, hd => by
    subst h1
    intro z hz
    rcases List.mem_cons.mp hz with rfl | hz
    · rw [h2]
      exact ⟨key_dp up h4 h3, hd p List.mem_cons_self⟩
    · exact denK_keys up h6 (fun q hq => hd q (List.mem_cons_of_mem _ hq)) z hz
theorem denK_len {S : Hp} {ps : KD} {L : KL} (h : DenK K S ps L) : L.length = ps.length := by
  have := congrArg List.length h.keys
  rw [List.length_map, List.length_map] at this
  exact this
/-- what the turns are to do: P at each end -/
def dcTurns (P : Program) (w : World) (n : Nat) (item : Nat → D) (ok : Mu → Prop) (g : Sl) (vs : List Nat) (k : AbG) (ft : AbT) (fk fv : Ab) (p : Addr) (Pv : Nat → KD → Mu → Prop) : Prop :=
  (∀ i acc m, i ≤ n → Pv i acc m → ok m ∧ m p = some (.dic (DicO P w p) acc) ∧ acc.length < 100000 ∧ ∀ q ∈ acc, q.1.depth ≤ 8) ∧
  ∀ i acc m, i < n → Pv i acc m → k (item i) (wipeD g vs) m fun g2 m2 => ft g2 m2 fun b m3 =>
    if b = true then fk g2 m3 fun kd m4 => fv g2 m4 fun vd m5 => ∃ ks, keyD kd = some (.tup ks) ∧ (NestedKey.tup ks).depth ≤ 8 ∧ m5 p = some (.dic (DicO P w p) acc) ∧
      Pv (i + 1) (stoD acc (.tup ks) kd vd) (mset m5 p (.dic (DicO P w p) (stoD acc (.tup ks) kd vd))) else Pv (i + 1) acc m3
def aDc (P : Program) (w : World) (fa : Ab) (vs : List Nat) (k : AbG) (ft : AbT) (fk fv : Ab) : Ab := fun g m Q => fa g m fun d m1 => ∃ ds, seqOf m1 d = some ds ∧ ∀ p, m1 p = none → ∃ Pv : Nat → KD → Mu → Prop, Pv 0 [] (mset m1 p (.dic (DicO P w p) [])) ∧
  dcTurns P w ds.length (fun i => ds.getD i .non) (fun m' => seqOf m' d = some ds) g vs k ft fk fv p Pv ∧ ∀ acc m', Pv ds.length acc m' → Q (.box p) m'
theorem dc_gen {J : It} {n : Nat} {item : Nat → D} {okm : Mu → Prop} {g : Sl} {vs : List Nat} {k : AbG} {m1 : Mu} {H1 : Hp} {st : L2.St} {tg : TG} {tt : TT} {tk tv : TE} {Qd : PD} {Q : VK}
    (rp : Rep K H1 m1) (e0 : Ex S0 (R m1 H1)) (en : Env K (R m1 H1) g st) (qg : ∀ d g m P, k d (wipeD g vs) m P → ∀ v st H, Rep K H m → Env K (R m H) g st → Den K (R m H) d v →
      ∀ Q : L2.St → Hp → Prop, (∀ g' st', P g' m → wipe st' vs = wipe st vs → Env K (R m H) g' st' → Q st' H) → tg v (wipe st vs) H Q)
    (qt : ∀ g m P, ft g m P → WT K S0 tt g m P) (qk : ∀ g m P, fk g m P → WX K S0 tk g m P) (qv : ∀ g m P, fv g m P → WX K S0 tv g m P)
    (hJ : ∀ i m' H', i ≤ n → okm m' → Rep K H' m' → Ex (R m1 H1) (R m' H') → (i = n → J.stop i H') ∧ (i < n → J.go i H') ∧ ∀ x H2, i < n → J.yld i H' x H2 → H2 = H' ∧ Den K (R m' H') (item i) x)
    (h : ∀ p, m1 p = none → ∃ Pv : Nat → KD → Mu → Prop, Pv 0 [] (mset m1 p (.dic (DicO P w p) [])) ∧ dcTurns P w n item okm g vs k ft fk fv p Pv ∧ ∀ acc m', Pv n acc m' → Qd (.box p) m')
    (q : ∀ v H' d m', Qd d m' → Po K m1 H1 m' H' → Den K (R m' H') d v → Q v H') :
    ∀ Dl, H1 Dl = none → ∃ W : Nat → Nat → Hp → Prop, (∃ m, W 0 m (upd H1 Dl (DicO P w Dl []))) ∧ ∀ i m H, W i m H → (J.stop i H ∧ Q (.ref Dl) H) ∨ (J.go i H ∧ ∃ Nx : Hp → Prop, (∀ H', Nx H' → ∃ m', m' < m ∧ W (i + 1) m' H') ∧
      ∀ x H', J.yld i H x H' → tg x (wipe st vs) H' fun s2 H2 => wipe s2 vs = wipe st vs ∧ tt s2 H2 fun b H3 =>
        if b = true then tk s2 H3 fun y H4 => tv s2 H4 fun z H5 => ∃ L k a, y = V.ref a ∧ H5 Dl = some (DicO P w Dl L) ∧ L.length < sizeLine ∧ KeysIn K H5 L ∧ Dp K H5 (.ref a) k.data ∧ k.depth ≤ 8 ∧ Nx (upd H5 Dl (DicO P w Dl (stoL L k a z))) else Nx H3) := by
  intro Dl hD
  obtain ⟨Pv, h0, ⟨hst, htn⟩, hend⟩ := h Dl (rp.fresh hD)
  let Qv : Nat → Hp → Prop := fun i H' => ∃ acc m', Pv i acc m' ∧ Po K m1 H1 m' H'
  refine ⟨fun i w H' => w = n - i ∧ i ≤ n ∧ Qv i H', ⟨n, by simp, Nat.zero_le _, [], _, h0, Po.newK (L := []) rp hD rfl⟩, ?_⟩
  rintro i w2 H' ⟨rfl, hi, acc, m', hv, po⟩
  obtain ⟨hok, hacc, hlen, hdep⟩ := hst i acc m' hi hv
  obtain ⟨j1, j2, j3⟩ := hJ i m' H' hi hok po.1 po.2
  by_cases hlt : i < n
  · refine .inr ⟨j2 hlt, Qv (i + 1), fun H2 h2 => ⟨n - (i + 1), by omega, rfl, hlt, h2⟩, fun x H2 hy => ?_⟩
    obtain ⟨rfl, dx⟩ := j3 x H2 hlt hy
    refine qg _ g m' _ (htn i acc m' hlt hv) x st _ po.1 (en.mono po.2) dx _ fun g2 s2 h2 hw en2 => ⟨hw, ?_⟩
    refine qt g2 m' _ h2 s2 _ po.1 (e0.trans po.2) en2 _ fun b H3 m3 h3 p3 => ?_
    cases b with
    | false =>
      rw [if_neg (by decide)] at h3 ⊢
      exact ⟨acc, m3, h3, po.trans p3⟩
    | true =>
      rw [if_pos rfl] at h3 ⊢
      refine qk g2 m3 _ h3 s2 H3 p3.1 ((e0.trans po.2).trans p3.2) (en2.mono p3.2) _ fun y H4 kd m4 h4 p4 dy => ?_
      refine qv g2 m4 _ h4 s2 H4 p4.1 (((e0.trans po.2).trans p3.2).trans p4.2) ((en2.mono p3.2).mono p4.2) _ fun z H5 vd m5 h5 p5 dz => ?_
      obtain ⟨ks, ek, dk, h5, hn⟩ := h5
      obtain ⟨L, hL, dL⟩ := p5.1 Dl _ h5
      have dy5 := Den.mono p5.2 _ _ dy
      obtain ⟨t, rfl⟩ := key_tup dy5 ek
      have up : Ex (R m5 H5) H5 := fun b o z => (R_of z).2
      refine ⟨L, .tup ks, t, rfl, hL, ?_, denK_keys up dL hdep, key_dp up dy5 ek, dk, stoD acc (.tup ks) kd vd, _, hn, (po.trans (p3.trans (p4.trans p5))).trans (Po.setK p5.1 h5 (denK_sto dL ek dy5 dz))⟩
      rw [denK_len dL]
      exact sz_lt hlen
  · have : i = n := by omega
    subst this
    exact .inl ⟨j1 rfl, q _ H' _ _ (hend acc m' hv) po rfl⟩
theorem dc_sound {vs : List Nat} {k : AbG} {ta tk tv : TE} {tg' : TG} {tt : TT} (qa : ∀ g m P, fa g m P → WX X.K S0 ta g m P) (qg : ∀ d g m P, k d (wipeD g vs) m P → ∀ v st H, Rep X.K H m → Env X.K (R m H) g st → Den X.K (R m H) d v →
      ∀ Q : L2.St → Hp → Prop, (∀ g' st', P g' m → wipe st' vs = wipe st vs → Env X.K (R m H) g' st' → Q st' H) → tg' v (wipe st vs) H Q)
    (qt : ∀ g m P, ft g m P → WT X.K S0 tt g m P) (qk : ∀ g m P, fk g m P → WX X.K S0 tk g m P) (qv : ∀ g m P, fv g m P → WX X.K S0 tv g m P) : ∀ g m Q, aDc P w fa vs k ft fk fv g m Q → WX X.K S0 (tDcN P w X.K (iSq X.K ta) tg' tt tk tv vs) g m Q := by
  intro g m Q0 h st H rp e0 en Q q
  refine qa g m _ h st H rp e0 en _ fun v H1 d m1 h1 p1 d1 => ?_
  obtain ⟨ds, eds, h1⟩ := h1
  obtain ⟨p, rfl⟩ := d1.refd eds
  obtain ⟨vs0, dv0, k0⟩ := seq_kind p1.1 d1 eds
  refine ⟨p, rfl, ?_⟩
  have item : ∀ (i : Nat) (y : D), ds[i]? = some y → ds.getD i .non = y := fun i y z => by
    rw [List.getD_eq_getElem?_getD, z]
    rfl
  have fin : ∀ v H' d' m', Q0 d' m' → Po X.K m1 H1 m' H' → Den X.K (R m' H') d' v → Q v H' := fun v H' d' m' hp po dv => q v H' d' m' hp (p1.trans po) dv
  cases kd : isTup d with
  | false =>
    rw [kd, if_neg (by decide)] at k0
    refine .inl ⟨⟨vs0, k0⟩, dc_gen (n := ds.length) p1.1 (e0.trans p1.2) (en.mono p1.2) qg qt qk qv (fun i m' H' hi hok r x => ?_) h1 fin⟩
    obtain ⟨vs, dv, kv⟩ := seq_kind r (Den.mono x _ _ d1) hok
    rw [kd, if_neg (by decide)] at kv
    refine ⟨fun z => ⟨vs, kv, by rw [dv.len, z]; exact Nat.le_refl _⟩, fun z => ⟨vs, vs[i]'(by rw [dv.len]; exact z), kv, by simp⟩, fun y H2 z hy => ?_⟩
    obtain ⟨rfl, hy⟩ := hy
    obtain ⟨w, hw, dw⟩ := dv.getV (hy vs kv)
    rw [item i w hw]
    exact ⟨rfl, dw⟩
  | true =>
    rw [kd, if_pos rfl] at k0
    refine .inr ⟨⟨vs0, k0⟩, dc_gen (n := ds.length) p1.1 (e0.trans p1.2) (en.mono p1.2) qg qt qk qv (fun i m' H' hi hok r x => ?_) h1 fin⟩
    obtain ⟨vs, dv, kv⟩ := seq_kind r (Den.mono x _ _ d1) hok
    rw [kd, if_pos rfl] at kv
    refine ⟨fun z => ⟨vs, kv, by rw [dv.len, z]; exact Nat.le_refl _⟩, fun z => ⟨vs, vs[i]'(by rw [dv.len]; exact z), kv, by simp⟩, fun y H2 z hy => ?_⟩
    obtain ⟨rfl, hy⟩ := hy
    obtain ⟨w, hw, dw⟩ := dv.getV (hy vs kv)
    rw [item i w hw]
    exact ⟨rfl, dw⟩
theorem ae_dc {tg : Expr} {k : AbG} {n : Nat} (hr : Room n X.A) (hc : X.calm = true) (hN : X.N.Nodup) (ok : BlkOk X.N X.env.scope scope own) (ha : AE X S0 a fa) (hg : ACg X S0 scope (own.map (·.2)) tg k) (ht : ATs X S0 scope ifs ft) (hk : AllB X scope fun Y => AE Y S0 kx fk)
    (hv : AllB X scope fun Y => AE Y S0 vx fv) (hs : ∀ x, foldedSetIterable a X.env x = pure x := by intro _; rfl) : AE X S0 (.DictComp kx vx [⟨tg, a, ifs, 0⟩] scope pos) (aDc X.prog X.w fa (own.map (·.2)) k ft fk fv) := by
  obtain ⟨ta, pa, qa⟩ := ha.ex
  obtain ⟨tg', pg, qg⟩ := hg.ex
  obtain ⟨tt, pt, qt⟩ := ht.ex
  obtain ⟨tk, pk, qk⟩ := all_ae hk
  obtain ⟨tv, pv, qv⟩ := all_ae hv
  exact ⟨_, pe_dcN (by have := hr.un; omega) hc hN (pi_sq pa) ok pg pt pk pv hs, dc_sound qa qg qt qk qv⟩
theorem as_setDc (i : Nat) {y : Str} {py spos : Pos} {tg : Expr} {k : AbG} {n : Nat} (hr : Room n X.A) (hc : X.calm = true) (hN : X.N.Nodup) (ok : BlkOk X.N X.env.scope scope own) (ha : AE X S0 a fa) (hg : ACg X S0 scope (own.map (·.2)) tg k) (ht : ATs X S0 scope ifs ft) (hk : AllB X scope fun Y => AE Y S0 kx fk)
    (hv : AllB X scope fun Y => AE Y S0 vx fv) (hsw : swapsWith (.DictComp kx vx [⟨tg, a, ifs, 0⟩] scope pos) (some (.Name y py)) spos.line X.env = pure true) (hy : X.N[i]? = some y := by rfl) (hyl : X.env.scope.names.lookup y = some .local := by rfl)
    (hs : ∀ x, foldedSetIterable a X.env x = pure x := by intro _; rfl) : AS X S0 (.Assign [.Name y py] (.DictComp kx vx [⟨tg, a, ifs, 0⟩] scope pos) spos) (aSet i (aDc X.prog X.w fa (own.map (·.2)) k ft fk fv)) := by
  obtain ⟨ta, pa, qa⟩ := ha.ex
  obtain ⟨tg', pg, qg⟩ := hg.ex
  obtain ⟨tt, pt, qt⟩ := ht.ex
  obtain ⟨tk, pk, qk⟩ := all_ae hk
  obtain ⟨tv, pv, qv⟩ := all_ae hv
  exact ⟨_, ps_setDcN (by have := hr.un; omega) hc hN hy hyl hsw (pi_sq pa) ok pg pt pk pv hs, set_sound (dc_sound qa qg qt qk qv)⟩
end
end AL
set_option maxHeartbeats 1000000
/-! min(xs, key=f, default=e), xs a tuple -/
namespace L2
open PySem PySem.Spec PyProof.Rows AL Evl
section
variable {X : Cx}
def btD (ds : List D) (i j : Nat) : Bool := PySem.W.dataLt (dKey (ds.getD i .non)) (dKey (ds.getD j .non))
def rMinKey (K : PySem.W.Frag) (f : Addr) : List V → List V → Hp → VK → Prop := fun vs zs H Q => ∃ (a : Addr) (xs : List V) (ds : List D) (Rl : V → D → Prop) (dv : V), vs = [V.ref a] ∧ zs = [V.ref f, dv] ∧ SqT K H a xs ∧ PySem.W.EachIs Rl xs ds ∧
  (∀ v d, Rl v d → d ∈ ds → ∃ t, v = V.ref t ∧ Dp K H (.ref t) (.tuple (NestedKey.datas (trK d)))) ∧ (∀ d ∈ ds, ∀ e ∈ ds, PySem.W.alike (dKey d) (dKey e) = true) ∧ (∀ d ∈ ds, (dKey d).depth ≤ 60) ∧
  (ds = [] → Q dv H) ∧ (∀ v, ds ≠ [] → xs[PySem.argBest (btD ds) (ds.length - 1)]? = some v → Q v H)
theorem each_at {Rl : V → D → Prop} : ∀ {xs : List V} {ds : List D} {i : Nat} {v : V}, PySem.W.EachIs Rl xs ds → xs[i]? = some v → ∃ d, ds[i]? = some d ∧ Rl v d
  | _ :: _, _ :: _, 0, _, .cons h _, e => by
    cases e
    exact ⟨_, rfl, h⟩
  | _ :: xs, _ :: ds, i + 1, v, .cons _ t, e => each_at (xs := xs) (ds := ds) (i := i) t (by simpa using e)
theorem cr_minKey {f : Addr} (hc : X.calm = true) (hr : Room 3 X.A) (hf : ∀ (A : Around) (outer : List PySem.Env) (s : Shared) (H : Hp) (a : Addr) (ks : List NestedKey), Room 1 A → Env0 X.prog X.w X.K X.mg X.base A outer s H → Dp X.K H (.ref a) (.tuple (NestedKey.datas ks)) →
    wpAny (model X.prog X.w) A (call (.ref f) [.ref a]) (NewKey ks.length a s) (fun _ _ => False) s) : CallRK X (.builtin "min") [Str.ofString "key", Str.ofString "default"] (rMinKey X.K f) := by
  intro pins s σ H vs zs us ws Q I r rz h
  obtain ⟨a, xs, ds, Rl, dv, rfl, rfl, hs, he, hD, hal, hdp, q0, q1⟩ := h
  obtain rfl := Vals.ref1 r
  obtain ⟨its, rv, ht, hz⟩ := I.tuple hs
  cases rz with
  | cons rf rt =>
  cases rt with
  | @cons _ u2 _ _ rd rn =>
  cases rn
  cases rf
  have len : xs.length = ds.length := he.length
  have len2 := rv.length
  have un := hr.un
  have item : ∀ i v, its.toArray[i]? = some v → ∃ t d, v = .ref t ∧ xs[i]? = some (V.ref t) ∧ ds[i]? = some d ∧ d ∈ ds ∧ ds.getD i .non = d ∧ Dp X.K H (.ref t) (.tuple (NestedKey.datas (trK d))) := fun i v e => by
    rw [List.getElem?_toArray] at e
    have hi : i < xs.length := by
      rw [len2]
      exact (List.getElem?_eq_some_iff.mp e).1
    obtain ⟨u, hu, ru⟩ := rv.get (List.getElem?_eq_getElem hi)
    rw [e] at hu
    cases hu
    obtain ⟨d, hd, rl⟩ := each_at he (List.getElem?_eq_getElem hi)
    have md := List.mem_of_getElem? hd
    obtain ⟨t, e2, dp⟩ := hD _ d rl md
    rw [e2] at ru
    refine ⟨t, d, ru, ?_, hd, md, ?_, dp⟩
    · rw [List.getElem?_eq_getElem hi, e2]
    · rw [List.getD_eq_getElem?_getD, hd]
      rfl
  have back : ∀ {s'}, (∃ h tk, s' = { s with heap := h, toks := tk } ∧ ∀ b o, s.heap.get? b = some o → h.get? b = some o) → Inv X pins σ H s' := fun {s'} j => by
    obtain ⟨h, tk, rfl, k⟩ := j
    exact I.kept (t' := tk) k
  let J : Shared → Prop := fun s' => ∃ h tk, s' = { s with heap := h, toks := tk } ∧ ∀ b o, s.heap.get? b = some o → h.get? b = some o
  refine PySem.call_min_walkKD (x := .ref a) (wpAny_pyIter_tuple ht ?_)
  have hne : a ≠ s.heap.objs.size := Nat.ne_of_lt ht.lt
  have sz : (s.heap.push { cls := .type "tuple_iterator", data := .fields #[.ref a, .int 0 0] }).objs.size = s.heap.objs.size + 1 := Heap.size_push ..
  have hst : ∀ b o, s.heap.get? b = some o → (s.heap.push { cls := .type "tuple_iterator", data := .fields #[.ref a, .int 0 0] }).get? b = some o := fun b o e => Heap.get?_push_of_some _ e
  have W := Walks.tuple (prog := X.prog) (w := X.w) (A := X.A.in1) (I.ok.hd hc) s.heap.objs.size a hne its.toArray
  let VV : Nat → Value → Shared → Prop := fun i k s' => J s' ∧ ∃ t u b d, k = .ref t ∧ t ≠ s.heap.objs.size + 1 ∧ t ≠ s.heap.objs.size ∧ its.toArray[i]? = some (.ref b) ∧ ds[i]? = some d ∧ s'.heap.get? t = some { cls := .type "tuple", data := .seq #[.int ((trK d).length : Nat) u, .ref b] }
  have mv : ∀ {s1 s2 : Shared}, J s1 → Moved ((s.heap.objs.size + 1) :: [s.heap.objs.size]) (fun a b => b = a) s1 s2 → J s2 := fun {s1 s2} j m => by
    obtain ⟨h, tk, rfl, k⟩ := j
    obtain ⟨h2, g2, d2, t2, o2⟩ := s2
    obtain ⟨m1, m2, m3, m4, m5⟩ := m
    have m2 : g2 = s.gens := m2
    have m3 : d2 = s.drawn := m3
    have m4 : o2 = s.os := m4
    subst m2 m3 m4
    refine ⟨h2, t2, rfl, fun b o e => m1 b o (fun z => ?_) (k b o e)⟩
    have lt : b < s.heap.objs.size := Heap.lt_size e
    rcases List.mem_cons.mp z with e1 | z
    · rw [e1] at lt
      exact Nat.lt_irrefl _ (Nat.lt_of_succ_lt lt)
    · rw [List.mem_singleton.mp z] at lt
      exact Nat.lt_irrefl _ lt
  refine ⟨s.heap.objs.size, _, _, _, its.toArray.size, fun i v => its.toArray[i]? = some v, _, J, VV, btD ds, rfl, W.toS, ⟨⟨_, Heap.get?_push_size _ rfl, rfl, rfl⟩, (show s.heap.IsTuple a its.toArray from ht).at fun o e => hst a o e⟩, ?_, ?_, ⟨_, _, rfl, hst⟩, ?_, ?_⟩
  · intro b hb
    show b < (s.heap.push _).objs.size
    rw [sz]
    rcases List.mem_cons.mp hb with rfl | hb
    · exact Nat.lt_succ_self _
    · rw [List.mem_singleton.mp hb]
      exact Nat.lt_succ_of_lt ht.lt
  · show KeyRun X.prog X.w X.A.in1 (.ref f) .Lt (s.heap.push { cls := .type "tuple_iterator", data := .fields #[.ref a, .int 0 0] }).objs.size [s.heap.objs.size] (fun a b => b = a) its.toArray.size (fun i v => its.toArray[i]? = some v)
      (fun i s => s.heap.IsTupleIter _ a i ∧ s.heap.IsTuple a its.toArray) J VV (btD ds)
    rw [sz]
    refine ⟨fun s1 s2 j m => mv j m, fun i k s1 s2 hv m => ?_, fun i v s1 o Q1 E1 hi hv j st hS cont => ?_, fun i j ki kj s1 Q1 E1 hj hvi hvj q => ?_⟩
    · obtain ⟨j, t, u, b, d, e1, n1, n2, e2, e3, e4⟩ := hv
      refine ⟨mv j m, t, u, b, d, e1, n1, n2, e2, e3, m.heap t _ ?_ e4⟩
      simp only [List.mem_cons, List.mem_nil_iff, or_false, not_or]
      exact ⟨n1, n2⟩
    · obtain ⟨t, d, rfl, hx, hd, md, _, dp⟩ := item i v hv
      have I1 := back j
      refine wpAny_mono (hf X.A.in1 X.stack s1 H t (trK d) (hr.in1.mono (by decide)) I1.env0.in1 dp) (fun k s2 z => ?_) fun _ _ z => z.elim
      obtain ⟨h', tk, t', tu, rfl, kp, rfl, hn, ht'⟩ := z
      have j2 : J { s1 with heap := h', toks := tk } := by
        obtain ⟨h, tk0, rfl, k⟩ := j
        exact ⟨h', tk, rfl, fun b o e => kp b o (k b o e)⟩
      have nS : t' ≠ s.heap.objs.size + 1 := fun z => by
        rw [z, hS] at hn
        cases hn
      have nI : t' ≠ s.heap.objs.size := fun z => by
        obtain ⟨o2, e2, _⟩ := st.1
        rw [z, e2] at hn
        cases hn
      refine cont _ _ j2 ⟨st.1.at fun o e => kp _ o e, st.2.at fun o e => kp _ o e⟩ (kp _ _ hS) ⟨j2, t', tu, t, d, rfl, nS, nI, hv, hd, ht'⟩ fun i2 k2 hv2 => ?_
      obtain ⟨_, t3, u3, b3, d3, e1, n1, n2, e2, e3, e4⟩ := hv2
      exact ⟨j2, t3, u3, b3, d3, e1, n1, n2, e2, e3, kp _ _ e4⟩
    · obtain ⟨_, t1, u1, b1, d1, rfl, _, _, e1, f1, g1⟩ := hvi
      obtain ⟨_, t2, u2', b2, d2, rfl, _, _, e2, f2, g2⟩ := hvj
      have I1 := back hj
      obtain ⟨x1, y1, z1, _, w1, m1, v1, p1⟩ := item i _ e1
      obtain ⟨x2, y2, z2, _, w2, m2, v2, p2⟩ := item j _ e2
      cases z1
      cases z2
      rw [f1] at w1
      rw [f2] at w2
      cases w1
      cases w2
      have r1 := newKey_reads I1 p1 g1
      have r2 := newKey_reads I1 p2 g2
      have dep := hdp _ m1
      refine PySem.W.rcLt_alike (dKey d1) (dKey d2) X.A.in1 s1 _ _ _ _ r1 r2 (hal _ m1 _ m2) (by unfold dKey lenKey; exact fun z => nomatch z) (by show X.A.units + 1 + _ < _; omega) _ _ _ _ ?_
      have e : btD ds i j = PySem.W.dataLt (dKey d1) (dKey d2) := by
        unfold btD
        rw [v1, v2]
      rw [← e]
      exact q
  · intro hn s' j
    have e : ds = [] := by
      apply List.eq_nil_of_length_eq_zero
      rw [List.size_toArray] at hn
      omega
    exact ⟨dv, H, back j, rd, q0 e⟩
  · intro hn v s' hv j
    obtain ⟨t, d, rfl, hx, hd, md, _⟩ := item _ v hv
    have ne : ds ≠ [] := fun z => by
      rw [z] at md
      cases md
    refine ⟨.ref t, H, back j, rfl, q1 _ ne ?_⟩
    rw [List.size_toArray, ← len2, len] at hx
    exact hx
end
end L2
set_option maxHeartbeats 1000000
/-! min(xs, key=f, default=e) over data -/
namespace AL
open PySem L2 Evl
section
variable {X : Cx} {S0 : Hp} {a b c e o : Expr} {fa fb fc fe fd : Ab} {pos p p2 kp kp2 : Pos} {K : PySem.W.Frag} {k : Nat}
def minD (ds : List D) : D := ds.getD (PySem.argBest (btD ds) (ds.length - 1)) .non
def fMinK : D → D → Mu → PD → Prop := fun d dd m P => match tupOf d with
  | some ds => (∀ e ∈ ds, ∃ ks, keyD e = some (.tup ks)) ∧ (∀ e ∈ ds, ∀ e' ∈ ds, PySem.W.alike (dKey e) (dKey e') = true) ∧ (∀ e ∈ ds, (dKey e).depth ≤ 60) ∧ P (if ds.isEmpty = true then dd else minD ds) m
  | none => False
def aMinK (fa fd : Ab) : Ab := fun g m P => fa g m fun d m1 => fd g m1 fun dd m2 => fMinK d dd m2 P
theorem ae_minK {f : Str} {pf : Pos} (hc : X.calm = true) (G : KeyFn X.prog X.w X.K X.mg X.base f) (hr : Room 3 X.A) (hm : X.mg "min" = none) (ha : AE X S0 a fa) (hd : AE X S0 e fd) (hg : Gl X "min" := by rfl) (hgf : Gl X f := by rfl) (hdf : (f == ("__debug__" : Str)) = false := by decide)
    (hs1 : starEach [a] X.env = (false, eval a X.env) :: starEach [] X.env := by rfl) (he : backTo pos (starEach [a] X.env) = (false, eval a X.env) :: backTo pos (starEach [] X.env) := by rfl) (hpl : (backTo pos (starEach [a] X.env)).any (·.1) = false := by rfl)
    (hall : (backToKw pos (keywordEach [⟨some "key", .Name f pf, kp⟩, ⟨some "default", e, kp2⟩] X.env)).all (·.1.isSome) = true := by rfl) (hnone : (backToKw pos (keywordEach [⟨some "key", .Name f pf, kp⟩, ⟨some "default", e, kp2⟩] X.env)).any (·.1.isNone) = false := by rfl)
    (hks : (backToKw pos (keywordEach [⟨some "key", .Name f pf, kp⟩, ⟨some "default", e, kp2⟩] X.env)).filterMap (·.1) = [Str.ofString "key", Str.ofString "default"] := by rfl) :
    AE X S0 (.Call (.Name "min" p) [a] [⟨some "key", .Name f pf, kp⟩, ⟨some "default", e, kp2⟩] pos) (aMinK fa fd) := by
  obtain ⟨q, hq, _, hf⟩ := G.ex
  obtain ⟨t, pt, s⟩ := ha.ex
  obtain ⟨td, pd, sd⟩ := hd.ex
  refine ⟨_, pe_callBK (cr_minKey hc hr hf) hg hm (by decide +kernel) (pa_cons pt pa_nil hs1) (pk_cons (pe_glob hgf hq (show RelV (.ref q) (.ref q) from rfl) hdf) (pk_cons pd pk_nil)) (by decide) (by decide) he hpl hall hnone hks, fun g m P h st H rp e0 en Q qq => ?_⟩
  refine s g m _ h st H rp e0 en _ fun v H1 d m1 h1 p1 d1 => ?_
  refine sd g m1 _ h1 st H1 p1.1 (e0.trans p1.2) (en.mono p1.2) _ fun dv H2 dd m2 h2 p2 d2 => ?_
  have h2 : (match tupOf d with
    | some ds => (∀ e ∈ ds, ∃ ks, keyD e = some (.tup ks)) ∧ (∀ e ∈ ds, ∀ e' ∈ ds, PySem.W.alike (dKey e) (dKey e') = true) ∧ (∀ e ∈ ds, (dKey e).depth ≤ 60) ∧ P (if ds.isEmpty = true then dd else minD ds) m2
    | none => False) := h2
  cases d with
  | tup ds =>
    obtain ⟨k1, k2, k3, h2⟩ := (show (∀ e ∈ ds, ∃ ks, keyD e = some (.tup ks)) ∧ (∀ e ∈ ds, ∀ e' ∈ ds, PySem.W.alike (dKey e) (dKey e') = true) ∧ (∀ e ∈ ds, (dKey e).depth ≤ 60) ∧ P (if ds.isEmpty = true then dd else minD ds) m2 from h2)
    obtain ⟨r, us, rfl, hv, du⟩ := d1
    have up : Ex (R m2 H2) H2 := fun b o z => (R_of z).2
    have du2 := DenL.mono p2.2 _ _ du
    refine ⟨r, us, ds, fun v d => Den X.K (R m2 H2) d v, dv, rfl, rfl, ex_t up (ex_t p2.2 hv), den_each du2, fun v d hd hm => ?_, k2, k3, fun z => ?_, fun v ne hv => ?_⟩
    · obtain ⟨ks, ek⟩ := k1 d hm
      obtain ⟨t, rfl⟩ := key_tup hd ek
      rw [trK_of ek]
      exact ⟨t, rfl, key_dp up hd ek⟩
    · subst z
      exact qq _ H2 dd m2 h2 (p1.trans p2) d2
    · obtain ⟨y, hy, dy⟩ := each_at (den_each du2) hv
      have e1 : ds.isEmpty = false := by
        cases ds with
        | nil => exact absurd rfl ne
        | cons _ _ => rfl
      rw [e1, if_neg (by decide)] at h2
      have e2 : minD ds = y := by
        unfold minD
        rw [List.getD_eq_getElem?_getD, hy]
        rfl
      rw [e2] at h2
      exact qq _ H2 y m2 h2 (p1.trans p2) dy
  | _ => exact h2.elim
end
end AL
namespace AL
open PySem L2 Evl
section
variable {X : Cx} {S0 : Hp} {a b : Expr} {fa fb : Ab} {pos : Pos}
theorem ae_lt (ha : AE X S0 a fa) (hb : AE X S0 b fb) (hm : behindInMarks .Lt b = false := by exact nomark _) : AE X S0 (.Compare a [.Lt] [b] pos) (aOp fLt fa fb) := ae_cmp op_lt (opA_I0 fun _ _ _ => rfl) hm ha hb
theorem ae_le (ha : AE X S0 a fa) (hb : AE X S0 b fb) (hm : behindInMarks .LtE b = false := by exact nomark _) : AE X S0 (.Compare a [.LtE] [b] pos) (aOp fLe fa fb) := ae_cmp op_le (opA_I0 fun _ _ _ => rfl) hm ha hb
theorem ae_gt (ha : AE X S0 a fa) (hb : AE X S0 b fb) (hm : behindInMarks .Gt b = false := by exact nomark _) : AE X S0 (.Compare a [.Gt] [b] pos) (aOp fGt fa fb) := ae_cmp op_gt (opA_I0 fun _ _ _ => rfl) hm ha hb
theorem ae_ge (ha : AE X S0 a fa) (hb : AE X S0 b fb) (hm : behindInMarks .GtE b = false := by exact nomark _) : AE X S0 (.Compare a [.GtE] [b] pos) (aOp fGe fa fb) := ae_cmp op_ge (opA_I0 fun _ _ _ => rfl) hm ha hb
end
end AL
set_option maxHeartbeats 4000000
namespace AL
open PySem L2 Evl
def topS (i : Nat) : Stmt := PySem.Challenge.pw_stoodthere_k14_whole_order_of_all_trees.main.body.getD i (.Pass ⟨0, 0, 0, 0⟩)
/-! is_number: level 1 -/
abbrev s_is_number : Stmt := topS 5
abbrev N_is_number : List Str := ["thing"]
theorem sc_is_number : L2.FnScope N_is_number ["thing"] (defScope s_is_number) := ⟨rfl, rfl, rfl, by decide +kernel, rfl, by decide +kernel, by decide +kernel⟩
def b_is_number  (W : PX) : AbS :=
  (aRet (aAndV (aCa fIsi (aCons (aVar 0) (aCons (aC (.ty "int")) aNil))) (aAndV (aNotV (aCa fIsi (aCons (aVar 0) (aCons (aC (.ty "bool")) aNil)))) (aOp fGe (aVar 0) (aC (.int 0))))))
theorem ab_is_number {P : Program} {w : World} {K : PySem.W.Frag} {mg : Str → Option Value} {base : Heap} (T : Bl mg)
  {f : Addr} (cdv : Value) (A : Around) (outer : List PySem.Env) (s : Shared) (H : Hp) (E : XK) (S0 : Hp) (W : PX) (hr : Room 0 (A.deeper (PyProof.Rows.envOfC "is_number" (defScope s_is_number) s.heap.objs.size f cdv)))
  (tk : Takes (cxA P w K mg base N_is_number "is_number" s_is_number f cdv A outer s H E) (fun cls d _ H' => XW K S0 W cls d H')) :
  AB (cxA P w K mg base N_is_number "is_number" s_is_number f cdv A outer s H E) S0 (defBody s_is_number) (b_is_number  W) :=
  (ab_one (as_ret (ae_and (ae_isi T.isi (aa_cons (ae_var 0) (aa_cons (ae_ty "int" T.int (by decide +kernel)) aa_nil))) (ae_and (ae_not (ae_isi T.isi (aa_cons (ae_var 0) (aa_cons (ae_ty "bool" T.bool (by decide +kernel)) aa_nil)))) (ae_one (ae_ge (ae_var 0) ae_i))))))
/-! is_number_to: level 2 -/
abbrev s_is_number_to : Stmt := topS 6
abbrev N_is_number_to : List Str := ["thing", "most"]
theorem sc_is_number_to : L2.FnScope N_is_number_to ["thing", "most"] (defScope s_is_number_to) := ⟨rfl, rfl, rfl, by decide +kernel, rfl, by decide +kernel, by decide +kernel⟩
def b_is_number_to (sp_is_number : ASp) (W : PX) : AbS :=
  (aRet (aAndV (aCall sp_is_number (aCons (aVar 0) aNil)) (aOp fLe (aVar 0) (aVar 1))))
theorem ab_is_number_to {P : Program} {w : World} {K : PySem.W.Frag} {mg : Str → Option Value} {base : Heap} {sp_is_number : ASp} (Gis_number : Cal P w K mg base 1 "is_number" ["thing"] sp_is_number)
  {f : Addr} (cdv : Value) (A : Around) (outer : List PySem.Env) (s : Shared) (H : Hp) (E : XK) (S0 : Hp) (W : PX) (hr : Room 1 (A.deeper (PyProof.Rows.envOfC "is_number_to" (defScope s_is_number_to) s.heap.objs.size f cdv)))
  (tk : Takes (cxA P w K mg base N_is_number_to "is_number_to" s_is_number_to f cdv A outer s H E) (fun cls d _ H' => XW K S0 W cls d H')) :
  AB (cxA P w K mg base N_is_number_to "is_number_to" s_is_number_to f cdv A outer s H E) S0 (defBody s_is_number_to) (b_is_number_to sp_is_number W) :=
  (ab_one (as_ret (ae_and (ae_cal Gis_number (hr.mono (by decide)) (aa_cons (ae_var 0) aa_nil)) (ae_one (ae_le (ae_var 0) (ae_var 1))))))
/-! is_node: level 2 -/
abbrev s_is_node : Stmt := topS 7
abbrev N_is_node : List Str := ["thing", "tree"]
theorem sc_is_node : L2.FnScope N_is_node ["thing", "tree"] (defScope s_is_node) := ⟨rfl, rfl, rfl, by decide +kernel, rfl, by decide +kernel, by decide +kernel⟩
def b_is_node (sp_is_number : ASp) (W : PX) : AbS :=
  (aRet (aAndV (aCall sp_is_number (aCons (aVar 0) aNil)) (aOp fLt (aVar 0) (aCa fLen (aCons (aVar 1) aNil)))))
theorem ab_is_node {P : Program} {w : World} {K : PySem.W.Frag} {mg : Str → Option Value} {base : Heap} {sp_is_number : ASp} (Gis_number : Cal P w K mg base 1 "is_number" ["thing"] sp_is_number) (T : Bl mg)
  {f : Addr} (cdv : Value) (A : Around) (outer : List PySem.Env) (s : Shared) (H : Hp) (E : XK) (S0 : Hp) (W : PX) (hr : Room 1 (A.deeper (PyProof.Rows.envOfC "is_node" (defScope s_is_node) s.heap.objs.size f cdv)))
  (tk : Takes (cxA P w K mg base N_is_node "is_node" s_is_node f cdv A outer s H E) (fun cls d _ H' => XW K S0 W cls d H')) :
  AB (cxA P w K mg base N_is_node "is_node" s_is_node f cdv A outer s H E) S0 (defBody s_is_node) (b_is_node sp_is_number W) :=
  (ab_one (as_ret (ae_and (ae_cal Gis_number (hr.mono (by decide)) (aa_cons (ae_var 0) aa_nil)) (ae_one (ae_lt (ae_var 0) (ae_len T.len (aa_cons (ae_var 1) aa_nil)))))))
/-! need: level 3 raises -/
abbrev s_need : Stmt := topS 8
abbrev N_need : List Str := ["holds", "name"]
theorem sc_need : L2.FnScope N_need ["holds", "name"] (defScope s_need) := ⟨rfl, rfl, rfl, by decide +kernel, rfl, by decide +kernel, by decide +kernel⟩
def b_need (C_NotUsable : Addr) (W : PX) : AbS :=
  (aIf (aNot (aTru (aVar 0))) (aRaise C_NotUsable "word" "at" W (aCons (aVar 1) (aCons (aUn fNeg (aC (.int 1))) aNil))) aNext)
theorem ab_need {P : Program} {w : World} {K : PySem.W.Frag} {mg : Str → Option Value} {base : Heap} {C_NotUsable : Addr} (R_NotUsable : ErrC P w K mg base "NotUsable" C_NotUsable "word" "at")
  {f : Addr} (cdv : Value) (A : Around) (outer : List PySem.Env) (s : Shared) (H : Hp) (E : XK) (S0 : Hp) (W : PX) (hr : Room 2 (A.deeper (PyProof.Rows.envOfC "need" (defScope s_need) s.heap.objs.size f cdv)))
  (tk : Takes (cxA P w K mg base N_need "need" s_need f cdv A outer s H E) (fun cls d _ H' => XW K S0 W cls d H')) :
  AB (cxA P w K mg base N_need "need" s_need f cdv A outer s H E) S0 (defBody s_need) (b_need C_NotUsable W) :=
  (ab_one (as_if (at_not (at_tru (ae_var 0))) (ab_one (as_rais rfl tk R_NotUsable (hr.mono (by decide)) (aa_cons (ae_var 1) (aa_cons (ae_neg ae_i) aa_nil)))) ab_nil))
/-! is_word: level 1 -/
abbrev s_is_word : Stmt := topS 16
abbrev N_is_word : List Str := ["thing", "sign"]
theorem sc_is_word : L2.FnScope N_is_word ["thing"] (defScope s_is_word) := ⟨rfl, rfl, rfl, by decide +kernel, rfl, by decide +kernel, by decide +kernel⟩
def b_is_word (d_LETTERS d_LONGEST_WORD d_SILENT d_WORD_SIGNS : D) (W : PX) : AbS :=
  (aCut (aIf (aOr (aNot (aTru (aCa fIsi (aCons (aVar 0) (aCons (aC (.ty "str")) aNil))))) (aNot (aChain fLe fLe (aC (.int 1)) (aCa fLen (aCons (aVar 0) aNil)) (aC d_LONGEST_WORD)))) (aRet (aC (.bl false))) aNext)
  (aCut (aIf (aTest (aOp fEq (aVar 0) (aC d_SILENT))) (aRet (aC (.bl true))) aNext)
  (aRet (aAndV (aOp fIn (aOp fIx (aVar 0) (aC (.int 0))) (aC d_LETTERS)) (aCa fAll (aCons (aLcT true (aVar 0) [1] (kName 1) aYes (aOp fIn (aVar 1) (aC d_WORD_SIGNS))) aNil))))))
theorem ab_is_word {P : Program} {w : World} {K : PySem.W.Frag} {mg : Str → Option Value} {base : Heap} {d_LETTERS d_LONGEST_WORD d_SILENT d_WORD_SIGNS : D} (G_LETTERS : Glo K mg "LETTERS" d_LETTERS) (G_LONGEST_WORD : Glo K mg "LONGEST_WORD" d_LONGEST_WORD) (G_SILENT : Glo K mg "SILENT" d_SILENT) (G_WORD_SIGNS : Glo K mg "WORD_SIGNS" d_WORD_SIGNS) (T : Bl mg)
  {f : Addr} (cdv : Value) (A : Around) (outer : List PySem.Env) (s : Shared) (H : Hp) (E : XK) (S0 : Hp) (W : PX) (hr : Room 0 (A.deeper (PyProof.Rows.envOfC "is_word" (defScope s_is_word) s.heap.objs.size f cdv)))
  (tk : Takes (cxA P w K mg base N_is_word "is_word" s_is_word f cdv A outer s H E) (fun cls d _ H' => XW K S0 W cls d H')) :
  AB (cxA P w K mg base N_is_word "is_word" s_is_word f cdv A outer s H E) S0 (defBody s_is_word) (b_is_word d_LETTERS d_LONGEST_WORD d_SILENT d_WORD_SIGNS W) :=
  (ab_cut (as_if (aw_at (aw_or (at_not (at_tru (ae_isi T.isi (aa_cons (ae_var 0) (aa_cons (ae_ty "str" T.str (by decide +kernel)) aa_nil))))) (at_or1 (at_not (at_leLe ae_i (ae_len T.len (aa_cons (ae_var 0) aa_nil)) (ae_glo G_LONGEST_WORD)))))) (ab_one (as_ret ae_b)) ab_nil)
  (ab_cut (as_if (at_eq (ae_var 0) (ae_glo G_SILENT)) (ab_one (as_ret ae_b)) ab_nil)
  (ab_one (as_ret (ae_and (ae_in (ae_ix (ae_var 0) ae_i) (ae_glo G_LETTERS)) (ae_one (ae_all rfl T.all (aa_cons (ae_lcT (own := [("sign", 1)]) true rfl sc_is_word.nd (blkOk_by (own := [("sign", 1)]) (N := N_is_word) (sc := defScope s_is_word) (by decide +kernel)) (ae_var 0) (acg_name 1 (by decide) (fun _ _ _ _ _ => pg_name (i := 1) sc_is_word.nd rfl (by first | exact Or.inl rfl | exact Or.inr rfl))) ats_nil (fun _ _ _ _ _ => (ae_in (ae_var 1) (ae_glo G_WORD_SIGNS)))) aa_nil))))))))
/-! is_symbol: level 3 -/
abbrev s_is_symbol : Stmt := topS 17
abbrev N_is_symbol : List Str := ["thing", "word", "many"]
theorem sc_is_symbol : L2.FnScope N_is_symbol ["thing"] (defScope s_is_symbol) := ⟨rfl, rfl, rfl, by decide +kernel, rfl, by decide +kernel, by decide +kernel⟩
def b_is_symbol (d_MOST_PARTS d_SILENT : D) (sp_is_number_to sp_is_word : ASp) (W : PX) : AbS :=
  (aCut (aIf (aOr (aNot (aTru (aCa fIsi (aCons (aVar 0) (aCons (aC (.ty "tuple")) aNil))))) (aTest (aOp fNe (aCa fLen (aCons (aVar 0) aNil)) (aC (.int 2))))) (aRet (aC (.bl false))) aNext)
  (aSeq (aAsg (aVar 0) (kTup 2 (kCons (kName 1) (kCons (kName 2) kNil))))
  (aCut (aIf (aOr (aNot (aTru (aCall sp_is_word (aCons (aVar 1) aNil)))) (aNot (aTru (aCall sp_is_number_to (aCons (aVar 2) (aCons (aC d_MOST_PARTS) aNil)))))) (aRet (aC (.bl false))) aNext)
  (aRet (aOrV (aOp fNe (aVar 1) (aC d_SILENT)) (aOp fEq (aVar 2) (aC (.int 0))))))))
theorem ab_is_symbol {P : Program} {w : World} {K : PySem.W.Frag} {mg : Str → Option Value} {base : Heap} {d_MOST_PARTS d_SILENT : D} {sp_is_number_to sp_is_word : ASp} (G_MOST_PARTS : Glo K mg "MOST_PARTS" d_MOST_PARTS) (G_SILENT : Glo K mg "SILENT" d_SILENT) (Gis_number_to : Cal P w K mg base 2 "is_number_to" ["thing", "most"] sp_is_number_to) (Gis_word : Cal P w K mg base 1 "is_word" ["thing"] sp_is_word) (T : Bl mg)
  {f : Addr} (cdv : Value) (A : Around) (outer : List PySem.Env) (s : Shared) (H : Hp) (E : XK) (S0 : Hp) (W : PX) (hr : Room 2 (A.deeper (PyProof.Rows.envOfC "is_symbol" (defScope s_is_symbol) s.heap.objs.size f cdv)))
  (tk : Takes (cxA P w K mg base N_is_symbol "is_symbol" s_is_symbol f cdv A outer s H E) (fun cls d _ H' => XW K S0 W cls d H')) :
  AB (cxA P w K mg base N_is_symbol "is_symbol" s_is_symbol f cdv A outer s H E) S0 (defBody s_is_symbol) (b_is_symbol d_MOST_PARTS d_SILENT sp_is_number_to sp_is_word W) :=
  (ab_cut (as_if (aw_at (aw_or (at_not (at_tru (ae_isi T.isi (aa_cons (ae_var 0) (aa_cons (ae_ty "tuple" T.tuple (by decide +kernel)) aa_nil))))) (at_or1 (at_ne (ae_len T.len (aa_cons (ae_var 0) aa_nil)) ae_i)))) (ab_one (as_ret ae_b)) ab_nil)
  (ab_cons (as_asg (ae_var 0) (ag_tup rfl (ags_cons (ag_name 1 sc_is_symbol.nd) (ags_cons (ag_name 2 sc_is_symbol.nd) ags_nil))))
  (ab_cut (as_if (aw_at (aw_or (at_not (at_tru (ae_cal Gis_word (hr.mono (by decide)) (aa_cons (ae_var 1) aa_nil)))) (at_or1 (at_not (at_tru (ae_cal Gis_number_to (hr.mono (by decide)) (aa_cons (ae_var 2) (aa_cons (ae_glo G_MOST_PARTS) aa_nil)))))))) (ab_one (as_ret ae_b)) ab_nil)
  (ab_one (as_ret (ae_or (ae_ne (ae_var 1) (ae_glo G_SILENT)) (ae_one (ae_eq (ae_var 2) ae_i))))))))
/-! is_hole: level 2 -/
abbrev s_is_hole : Stmt := topS 18
abbrev N_is_hole : List Str := ["thing"]
theorem sc_is_hole : L2.FnScope N_is_hole ["thing"] (defScope s_is_hole) := ⟨rfl, rfl, rfl, by decide +kernel, rfl, by decide +kernel, by decide +kernel⟩
def b_is_hole (d_HOLE : D) (sp_is_number : ASp) (W : PX) : AbS :=
  (aRet (aAndV (aOp fEqD (aVar 0) (aC d_HOLE)) (aCall sp_is_number (aCons (aOp fIx (aVar 0) (aC (.int 1))) aNil))))
theorem ab_is_hole {P : Program} {w : World} {K : PySem.W.Frag} {mg : Str → Option Value} {base : Heap} {d_HOLE : D} {sp_is_number : ASp} (G_HOLE : Glo K mg "HOLE" d_HOLE) (Gis_number : Cal P w K mg base 1 "is_number" ["thing"] sp_is_number)
  {f : Addr} (cdv : Value) (A : Around) (outer : List PySem.Env) (s : Shared) (H : Hp) (E : XK) (S0 : Hp) (W : PX) (hr : Room 1 (A.deeper (PyProof.Rows.envOfC "is_hole" (defScope s_is_hole) s.heap.objs.size f cdv)))
  (tk : Takes (cxA P w K mg base N_is_hole "is_hole" s_is_hole f cdv A outer s H E) (fun cls d _ H' => XW K S0 W cls d H')) :
  AB (cxA P w K mg base N_is_hole "is_hole" s_is_hole f cdv A outer s H E) S0 (defBody s_is_hole) (b_is_hole d_HOLE sp_is_number W) :=
  (ab_one (as_ret (ae_and (ae_eqD hr (ae_var 0) (ae_glo G_HOLE)) (ae_one (ae_cal Gis_number (hr.mono (by decide)) (aa_cons (ae_ix (ae_var 0) ae_i) aa_nil))))))
/-! fault_of: level 4 -/
abbrev s_fault_of : Stmt := topS 19
abbrev N_fault_of : List Str := ["thing", "may_have_holes", "missing", "k", "entry"]
theorem sc_fault_of : L2.FnScope N_fault_of ["thing", "may_have_holes"] (defScope s_fault_of) := ⟨rfl, rfl, rfl, by decide +kernel, rfl, by decide +kernel, by decide +kernel⟩
def b_fault_of (sp_is_hole sp_is_symbol : ASp) (W : PX) : AbS :=
  (aCut (aIf (aOr (aNot (aTru (aCa fIsi (aCons (aVar 0) (aCons (aC (.ty "tuple")) aNil))))) (aNot (aTru (aVar 0)))) (aRet (aTup (aCons (aC (.str "shape")) (aCons (aUn fNeg (aC (.int 1))) aNil)))) aNext)
  (aSeq (aSet 2 (aC (.int 1)))
  (aSeq (aForE (aCons (aVar 0) aNil) (kTup 2 (kCons (kName 3) (kCons (kName 4) kNil))) (aCut (aIf (aTest (aOp fEq (aVar 2) (aC (.int 0)))) (aRet (aTup (aCons (aC (.str "behind")) (aCons (aVar 3) aNil)))) aNext)
  (aIf (aAnd (aTru (aVar 1)) (aTru (aCall sp_is_hole (aCons (aVar 4) aNil)))) (aAug 2 (fun i j => i - j) (aC (.int 1))) (aIf (aTru (aCall sp_is_symbol (aCons (aVar 4) aNil))) (aAug 2 (fun i j => i + j) (aOp fSub (aOp fIx (aVar 4) (aC (.int 1))) (aC (.int 1)))) (aRet (aTup (aCons (aC (.str "symbol")) (aCons (aVar 3) aNil))))))))
  (aRet (aIfE (aTest (aOp fEq (aVar 2) (aC (.int 0)))) (aC .non) (aTup (aCons (aC (.str "end")) (aCons (aCa fLen (aCons (aVar 0) aNil)) aNil))))))))
theorem ab_fault_of {P : Program} {w : World} {K : PySem.W.Frag} {mg : Str → Option Value} {base : Heap} {sp_is_hole sp_is_symbol : ASp} (Gis_hole : Cal P w K mg base 2 "is_hole" ["thing"] sp_is_hole) (Gis_symbol : Cal P w K mg base 3 "is_symbol" ["thing"] sp_is_symbol) (T : Bl mg)
  {f : Addr} (cdv : Value) (A : Around) (outer : List PySem.Env) (s : Shared) (H : Hp) (E : XK) (S0 : Hp) (W : PX) (hr : Room 3 (A.deeper (PyProof.Rows.envOfC "fault_of" (defScope s_fault_of) s.heap.objs.size f cdv)))
  (tk : Takes (cxA P w K mg base N_fault_of "fault_of" s_fault_of f cdv A outer s H E) (fun cls d _ H' => XW K S0 W cls d H')) :
  AB (cxA P w K mg base N_fault_of "fault_of" s_fault_of f cdv A outer s H E) S0 (defBody s_fault_of) (b_fault_of sp_is_hole sp_is_symbol W) :=
  (ab_cut (as_if (aw_at (aw_or (at_not (at_tru (ae_isi T.isi (aa_cons (ae_var 0) (aa_cons (ae_ty "tuple" T.tuple (by decide +kernel)) aa_nil))))) (at_or1 (at_not (at_tru (ae_var 0)))))) (ab_one (as_ret (ae_tup (aa_cons ae_s (aa_cons (ae_neg ae_i) aa_nil))))) ab_nil)
  (ab_cons (as_set 2 ae_i sc_fault_of.nd)
  (ab_cons (as_forE (passes_of rfl) rfl T.enumerate (aa_cons (ae_var 0) aa_nil) (ag_tup rfl (ags_cons (ag_name 3 sc_fault_of.nd) (ags_cons (ag_name 4 sc_fault_of.nd) ags_nil))) (ab_cut (as_if (at_eq (ae_var 2) ae_i) (ab_one (as_ret (ae_tup (aa_cons ae_s (aa_cons (ae_var 3) aa_nil))))) ab_nil)
  (ab_one (as_if (aw_at (aw_and (at_tru (ae_var 1)) (at_and1 (at_tru (ae_cal Gis_hole (hr.mono (by decide)) (aa_cons (ae_var 4) aa_nil)))))) (ab_one (as_aug 2 ip_sub ae_i sc_fault_of.nd)) (ab_one (as_if (at_tru (ae_cal Gis_symbol (hr.mono (by decide)) (aa_cons (ae_var 4) aa_nil))) (ab_one (as_aug 2 ip_add (ae_sub (ae_ix (ae_var 4) ae_i) ae_i) sc_fault_of.nd)) (ab_one (as_ret (ae_tup (aa_cons ae_s (aa_cons (ae_var 3) aa_nil)))))))))))
  (ab_one (as_ret (ae_if (at_eq (ae_var 2) ae_i) ae_n (ae_tup (aa_cons ae_s (aa_cons (ae_len T.len (aa_cons (ae_var 0) aa_nil)) aa_nil)))))))))
/-! is_tree: level 5 -/
abbrev s_is_tree : Stmt := topS 20
abbrev N_is_tree : List Str := ["thing"]
theorem sc_is_tree : L2.FnScope N_is_tree ["thing"] (defScope s_is_tree) := ⟨rfl, rfl, rfl, by decide +kernel, rfl, by decide +kernel, by decide +kernel⟩
def b_is_tree (sp_fault_of : ASp) (W : PX) : AbS :=
  (aRet (aIsN false (aCall sp_fault_of (aCons (aVar 0) (aCons (aC (.bl false)) aNil)))))
theorem ab_is_tree {P : Program} {w : World} {K : PySem.W.Frag} {mg : Str → Option Value} {base : Heap} {sp_fault_of : ASp} (Gfault_of : Cal P w K mg base 4 "fault_of" ["thing", "may_have_holes"] sp_fault_of)
  {f : Addr} (cdv : Value) (A : Around) (outer : List PySem.Env) (s : Shared) (H : Hp) (E : XK) (S0 : Hp) (W : PX) (hr : Room 4 (A.deeper (PyProof.Rows.envOfC "is_tree" (defScope s_is_tree) s.heap.objs.size f cdv)))
  (tk : Takes (cxA P w K mg base N_is_tree "is_tree" s_is_tree f cdv A outer s H E) (fun cls d _ H' => XW K S0 W cls d H')) :
  AB (cxA P w K mg base N_is_tree "is_tree" s_is_tree f cdv A outer s H E) S0 (defBody s_is_tree) (b_is_tree sp_fault_of W) :=
  (ab_one (as_ret (ae_isN (ae_cal Gfault_of (hr.mono (by decide)) (aa_cons (ae_var 0) (aa_cons ae_b aa_nil))))))
/-! order_key: level 1 -/
abbrev s_order_key : Stmt := topS 22
abbrev N_order_key : List Str := ["tree"]
theorem sc_order_key : L2.FnScope N_order_key ["tree"] (defScope s_order_key) := ⟨rfl, rfl, rfl, by decide +kernel, rfl, by decide +kernel, by decide +kernel⟩
def b_order_key  (W : PX) : AbS :=
  (aRet (aTup (aCons (aCa fLen (aCons (aVar 0) aNil)) (aCons (aVar 0) aNil))))
theorem ab_order_key {P : Program} {w : World} {K : PySem.W.Frag} {mg : Str → Option Value} {base : Heap} (T : Bl mg)
  {f : Addr} (cdv : Value) (A : Around) (outer : List PySem.Env) (s : Shared) (H : Hp) (E : XK) (S0 : Hp) (W : PX) (hr : Room 0 (A.deeper (PyProof.Rows.envOfC "order_key" (defScope s_order_key) s.heap.objs.size f cdv)))
  (tk : Takes (cxA P w K mg base N_order_key "order_key" s_order_key f cdv A outer s H E) (fun cls d _ H' => XW K S0 W cls d H')) :
  AB (cxA P w K mg base N_order_key "order_key" s_order_key f cdv A outer s H E) S0 (defBody s_order_key) (b_order_key  W) :=
  (ab_one (as_ret (ae_tup (aa_cons (ae_len T.len (aa_cons (ae_var 0) aa_nil)) (aa_cons (ae_var 0) aa_nil)))))
/-! is_ahead: level 6 raises -/
abbrev s_is_ahead : Stmt := topS 23
abbrev N_is_ahead : List Str := ["tree", "other"]
theorem sc_is_ahead : L2.FnScope N_is_ahead ["tree", "other"] (defScope s_is_ahead) := ⟨rfl, rfl, rfl, by decide +kernel, rfl, by decide +kernel, by decide +kernel⟩
def b_is_ahead (sp_is_tree sp_need sp_order_key : ASp) (W : PX) : AbS :=
  (aSeq (aDo (aCallX W sp_need (aCons (aCall sp_is_tree (aCons (aVar 1) aNil)) (aCons (aC (.str "other")) aNil))))
  (aRet (aOp fLtD (aCall sp_order_key (aCons (aVar 0) aNil)) (aCall sp_order_key (aCons (aVar 1) aNil)))))
theorem ab_is_ahead {P : Program} {w : World} {K : PySem.W.Frag} {mg : Str → Option Value} {base : Heap} {sp_is_tree sp_need sp_order_key : ASp} (Gis_tree : Cal P w K mg base 5 "is_tree" ["thing"] sp_is_tree) (Gneed : Cal P w K mg base 3 "need" ["holds", "name"] sp_need) (Gorder_key : Cal P w K mg base 1 "order_key" ["tree"] sp_order_key)
  {f : Addr} (cdv : Value) (A : Around) (outer : List PySem.Env) (s : Shared) (H : Hp) (E : XK) (S0 : Hp) (W : PX) (hr : Room 5 (A.deeper (PyProof.Rows.envOfC "is_ahead" (defScope s_is_ahead) s.heap.objs.size f cdv)))
  (tk : Takes (cxA P w K mg base N_is_ahead "is_ahead" s_is_ahead f cdv A outer s H E) (fun cls d _ H' => XW K S0 W cls d H')) :
  AB (cxA P w K mg base N_is_ahead "is_ahead" s_is_ahead f cdv A outer s H E) S0 (defBody s_is_ahead) (b_is_ahead sp_is_tree sp_need sp_order_key W) :=
  (ab_cons (as_expr (ae_calX tk Gneed (hr.mono (by decide)) (aa_cons (ae_cal Gis_tree (hr.mono (by decide)) (aa_cons (ae_var 1) aa_nil)) (aa_cons ae_s aa_nil))))
  (ab_one (as_ret (ae_ltD hr (ae_cal Gorder_key (hr.mono (by decide)) (aa_cons (ae_var 0) aa_nil)) (ae_cal Gorder_key (hr.mono (by decide)) (aa_cons (ae_var 1) aa_nil))))))
/-! least_of: level 4 -/
abbrev s_least_of : Stmt := topS 24
abbrev N_least_of : List Str := ["trees"]
theorem sc_least_of : L2.FnScope N_least_of ["trees"] (defScope s_least_of) := ⟨rfl, rfl, rfl, by decide +kernel, rfl, by decide +kernel, by decide +kernel⟩
def b_least_of  (W : PX) : AbS :=
  (aRet (aMinK (aVar 0) (aC .non)))
theorem ab_least_of {P : Program} {w : World} {K : PySem.W.Frag} {mg : Str → Option Value} {base : Heap} (T : Bl mg) (Y_order_key : KeyFn P w K mg base "order_key")
  {f : Addr} (cdv : Value) (A : Around) (outer : List PySem.Env) (s : Shared) (H : Hp) (E : XK) (S0 : Hp) (W : PX) (hr : Room 3 (A.deeper (PyProof.Rows.envOfC "least_of" (defScope s_least_of) s.heap.objs.size f cdv)))
  (tk : Takes (cxA P w K mg base N_least_of "least_of" s_least_of f cdv A outer s H E) (fun cls d _ H' => XW K S0 W cls d H')) :
  AB (cxA P w K mg base N_least_of "least_of" s_least_of f cdv A outer s H E) S0 (defBody s_least_of) (b_least_of  W) :=
  (ab_one (as_ret (ae_minK rfl Y_order_key (hr.mono (by decide)) T.min (ae_var 0) ae_n)))
/-! in_order: level 4 -/
abbrev s_in_order : Stmt := topS 25
abbrev N_in_order : List Str := ["trees", "different", "tree"]
theorem sc_in_order : L2.FnScope N_in_order ["trees"] (defScope s_in_order) := ⟨rfl, rfl, rfl, by decide +kernel, rfl, by decide +kernel, by decide +kernel⟩
def b_in_order (P : Program) (w : World) (W : PX) : AbS :=
  (aSeq (aSet 1 (aDc P w (aVar 0) [2] (kName 2) aYes (aVar 2) (aC (.bl true))))
  (aRet (aCa fTuple (aCons (aCa fSortK (aCons (aCa (fListK P w) (aCons (aVar 1) aNil)) aNil)) aNil))))
theorem ab_in_order {P : Program} {w : World} {K : PySem.W.Frag} {mg : Str → Option Value} {base : Heap} (T : Bl mg) (Y_order_key : KeyFn P w K mg base "order_key")
  {f : Addr} (cdv : Value) (A : Around) (outer : List PySem.Env) (s : Shared) (H : Hp) (E : XK) (S0 : Hp) (W : PX) (hr : Room 3 (A.deeper (PyProof.Rows.envOfC "in_order" (defScope s_in_order) s.heap.objs.size f cdv)))
  (tk : Takes (cxA P w K mg base N_in_order "in_order" s_in_order f cdv A outer s H E) (fun cls d _ H' => XW K S0 W cls d H')) :
  AB (cxA P w K mg base N_in_order "in_order" s_in_order f cdv A outer s H E) S0 (defBody s_in_order) (b_in_order P w W) :=
  (ab_cons (as_setDc (own := [("tree", 2)]) 1 hr rfl sc_in_order.nd (blkOk_by (own := [("tree", 2)]) (N := N_in_order) (sc := defScope s_in_order) (by decide +kernel)) (ae_var 0) (acg_name 2 (by decide) (fun _ _ _ _ _ => pg_name (i := 2) sc_in_order.nd rfl (by first | exact Or.inl rfl | exact Or.inr rfl))) ats_nil (fun _ _ _ _ _ => (ae_var 2)) (fun _ _ _ _ _ => ae_b) (sw_dc rfl rfl rfl (by decide +kernel)))
  (ab_one (as_ret (ae_tuple T.tuple (aa_cons (ae_sortK Y_order_key (hr.mono (by decide)) T.sorted (aa_cons (ae_listK rfl T.list (aa_cons (ae_var 1) aa_nil)) aa_nil)) aa_nil)))))
/-! end_of: level 1 -/
abbrev s_end_of : Stmt := topS 27
abbrev N_end_of : List Str := ["tree", "node", "end", "missing"]
theorem sc_end_of : L2.FnScope N_end_of ["tree", "node"] (defScope s_end_of) := ⟨rfl, rfl, rfl, by decide +kernel, rfl, by decide +kernel, by decide +kernel⟩
def b_end_of  (W : PX) : AbS :=
  (aSeq (aSet 2 (aVar 1))
  (aSeq (aSet 3 (aC (.int 1)))
  (aSeq (aWhile (aTest (aOp fGt (aVar 3) (aC (.int 0)))) (aSeq (aAug 3 (fun i j => i + j) (aOp fSub (aOp fIx (aOp fIx (aVar 0) (aVar 2)) (aC (.int 1))) (aC (.int 1))))
  (aAug 2 (fun i j => i + j) (aC (.int 1)))))
  (aRet (aVar 2)))))
theorem ab_end_of {P : Program} {w : World} {K : PySem.W.Frag} {mg : Str → Option Value} {base : Heap} 
  {f : Addr} (cdv : Value) (A : Around) (outer : List PySem.Env) (s : Shared) (H : Hp) (E : XK) (S0 : Hp) (W : PX) (hr : Room 0 (A.deeper (PyProof.Rows.envOfC "end_of" (defScope s_end_of) s.heap.objs.size f cdv)))
  (tk : Takes (cxA P w K mg base N_end_of "end_of" s_end_of f cdv A outer s H E) (fun cls d _ H' => XW K S0 W cls d H')) :
  AB (cxA P w K mg base N_end_of "end_of" s_end_of f cdv A outer s H E) S0 (defBody s_end_of) (b_end_of  W) :=
  (ab_cons (as_set 2 (ae_var 1) sc_end_of.nd)
  (ab_cons (as_set 3 ae_i sc_end_of.nd)
  (ab_cons (as_while (passes_of rfl) (at_gt (ae_var 3) ae_i) (ab_cons (as_aug 3 ip_add (ae_sub (ae_ix (ae_ix (ae_var 0) (ae_var 2)) ae_i) ae_i) sc_end_of.nd)
  (ab_one (as_aug 2 ip_add ae_i sc_end_of.nd))))
  (ab_one (as_ret (ae_var 2))))))
/-! with_piece: level 6 raises -/
abbrev s_with_piece : Stmt := topS 28
abbrev N_with_piece : List Str := ["tree", "node", "piece"]
theorem sc_with_piece : L2.FnScope N_with_piece ["tree", "node", "piece"] (defScope s_with_piece) := ⟨rfl, rfl, rfl, by decide +kernel, rfl, by decide +kernel, by decide +kernel⟩
def b_with_piece (sp_end_of sp_is_node sp_is_tree sp_need : ASp) (W : PX) : AbS :=
  (aSeq (aDo (aCallX W sp_need (aCons (aCall sp_is_node (aCons (aVar 1) (aCons (aVar 0) aNil))) (aCons (aC (.str "node")) aNil))))
  (aSeq (aDo (aCallX W sp_need (aCons (aCall sp_is_tree (aCons (aVar 2) aNil)) (aCons (aC (.str "piece")) aNil))))
  (aRet (aOp fAdd (aOp fAdd (aSl (aVar 0) aNo (aPart (aVar 1))) (aVar 2)) (aSl (aVar 0) (aPart (aCall sp_end_of (aCons (aVar 0) (aCons (aVar 1) aNil)))) aNo)))))
theorem ab_with_piece {P : Program} {w : World} {K : PySem.W.Frag} {mg : Str → Option Value} {base : Heap} {sp_end_of sp_is_node sp_is_tree sp_need : ASp} (Gend_of : Cal P w K mg base 1 "end_of" ["tree", "node"] sp_end_of) (Gis_node : Cal P w K mg base 2 "is_node" ["thing", "tree"] sp_is_node) (Gis_tree : Cal P w K mg base 5 "is_tree" ["thing"] sp_is_tree) (Gneed : Cal P w K mg base 3 "need" ["holds", "name"] sp_need)
  {f : Addr} (cdv : Value) (A : Around) (outer : List PySem.Env) (s : Shared) (H : Hp) (E : XK) (S0 : Hp) (W : PX) (hr : Room 5 (A.deeper (PyProof.Rows.envOfC "with_piece" (defScope s_with_piece) s.heap.objs.size f cdv)))
  (tk : Takes (cxA P w K mg base N_with_piece "with_piece" s_with_piece f cdv A outer s H E) (fun cls d _ H' => XW K S0 W cls d H')) :
  AB (cxA P w K mg base N_with_piece "with_piece" s_with_piece f cdv A outer s H E) S0 (defBody s_with_piece) (b_with_piece sp_end_of sp_is_node sp_is_tree sp_need W) :=
  (ab_cons (as_expr (ae_calX tk Gneed (hr.mono (by decide)) (aa_cons (ae_cal Gis_node (hr.mono (by decide)) (aa_cons (ae_var 1) (aa_cons (ae_var 0) aa_nil))) (aa_cons ae_s aa_nil))))
  (ab_cons (as_expr (ae_calX tk Gneed (hr.mono (by decide)) (aa_cons (ae_cal Gis_tree (hr.mono (by decide)) (aa_cons (ae_var 2) aa_nil)) (aa_cons ae_s aa_nil))))
  (ab_one (as_ret (ae_add (ae_add (ae_sl (ae_var 0) ao_none (ao_some (ae_var 1))) (ae_var 2)) (ae_sl (ae_var 0) (ao_some (ae_cal Gend_of (hr.mono (by decide)) (aa_cons (ae_var 0) (aa_cons (ae_var 1) aa_nil)))) ao_none))))))
/-! law_tape: level 1 -/
abbrev s_law_tape : Stmt := topS 30
abbrev N_law_tape : List Str := ["script", "state", "cell", "cells"]
theorem sc_law_tape : L2.FnScope N_law_tape ["script"] (defScope s_law_tape) := ⟨rfl, rfl, rfl, by decide +kernel, rfl, by decide +kernel, by decide +kernel⟩
def b_law_tape  (W : PX) : AbS :=
  (aSeq (aSet 1 (aC (.int 90533)))
  (aSeq (aFor (aVar 0) (kName 2) (aSet 1 (aOp fMod (aOp fAdd (aOp fAdd (aOp fMul (aVar 1) (aC (.int 52361))) (aVar 2)) (aC (.int 29))) (aC (.int 2147483647)))))
  (aSeq (aSet 3 (aLc true (aVar 0) [2] (kName 2) aYes (aCa fAbs (aCons (aVar 2) aNil))))
  (aRet (aLst (aCons (aRevB (aVar 3)) (aCons (aLstB (aCons (aVar 1) aNil)) aNil)))))))
theorem ab_law_tape {P : Program} {w : World} {K : PySem.W.Frag} {mg : Str → Option Value} {base : Heap} (T : Bl mg)
  {f : Addr} (cdv : Value) (A : Around) (outer : List PySem.Env) (s : Shared) (H : Hp) (E : XK) (S0 : Hp) (W : PX) (hr : Room 0 (A.deeper (PyProof.Rows.envOfC "_law_tape" (defScope s_law_tape) s.heap.objs.size f cdv)))
  (tk : Takes (cxA P w K mg base N_law_tape "_law_tape" s_law_tape f cdv A outer s H E) (fun cls d _ H' => XW K S0 W cls d H')) :
  AB (cxA P w K mg base N_law_tape "_law_tape" s_law_tape f cdv A outer s H E) S0 (defBody s_law_tape) (b_law_tape  W) :=
  (ab_cons (as_set 1 ae_i sc_law_tape.nd)
  (ab_cons (as_for (passes_of rfl) rfl (ae_var 0) (ag_name 2 sc_law_tape.nd) (ab_one (as_set 1 (ae_mod (ae_add (ae_add (ae_mul (ae_var 1) ae_i) (ae_var 2)) ae_i) ae_i) sc_law_tape.nd)))
  (ab_cons (as_setLc (own := [("cell", 2)]) 3 true rfl sc_law_tape.nd (blkOk_by (own := [("cell", 2)]) (N := N_law_tape) (sc := defScope s_law_tape) (by decide +kernel)) (ae_var 0) (acg_name 2 (by decide) (fun _ _ _ _ _ => pg_name (i := 2) sc_law_tape.nd rfl (by first | exact Or.inl rfl | exact Or.inr rfl))) ats_nil (fun _ _ _ _ _ => (ae_abs T.abs (aa_cons (ae_var 2) aa_nil))) (sw_true rfl rfl rfl (by decide +kernel)))
  (ab_one (as_ret (ae_lst (aa_cons (ae_revB (ae_var 3)) (aa_cons (ae_lstB (aa_cons (ae_var 1) aa_nil)) aa_nil))))))))
/-! law_pick: level 1 -/
abbrev s_law_pick : Stmt := topS 31
abbrev N_law_pick : List Str := ["tape", "many", "cells", "found"]
theorem sc_law_pick : L2.FnScope N_law_pick ["tape", "many"] (defScope s_law_pick) := ⟨rfl, rfl, rfl, by decide +kernel, rfl, by decide +kernel, by decide +kernel⟩
def b_law_pick  (W : PX) : AbS :=
  (aSeq (aSet 2 (aOp fIx (aVar 0) (aC (.int 0))))
  (aSeq (aWhile (aAnd (aTest (aOp fGt (aCa fLen (aCons (aVar 2) aNil)) (aC (.int 0)))) (aTest (aOp fEq (aOp fIx (aVar 2) (aUn fNeg (aC (.int 1)))) (aC (.int 0))))) (aDo (aML fPop (aVar 2) aNil)))
  (aCut (aIf (aTest (aOp fGt (aCa fLen (aCons (aVar 2) aNil)) (aC (.int 0)))) (aSeq (aSet 3 (aOp fMod (aCa fInt (aCons (aOp fIx (aVar 2) (aUn fNeg (aC (.int 1)))) aNil)) (aVar 1)))
  (aSeq (aAsg (aOp fFdiv (aCa fInt (aCons (aOp fIx (aVar 2) (aUn fNeg (aC (.int 1)))) aNil)) (aVar 1)) (kSub (aVar 2) (aUn fNeg (aC (.int 1)))))
  (aRet (aVar 3)))) aNext)
  (aSeq (aAsg (aOp fMod (aOp fAdd (aOp fMul (aOp fIx (aOp fIx (aVar 0) (aC (.int 1))) (aC (.int 0))) (aC (.int 16807))) (aC (.int 9))) (aC (.int 2147483647))) (kSub (aOp fIx (aVar 0) (aC (.int 1))) (aC (.int 0))))
  (aRet (aOp fMod (aOp fFdiv (aOp fIx (aOp fIx (aVar 0) (aC (.int 1))) (aC (.int 0))) (aC (.int 32))) (aVar 1)))))))
theorem ab_law_pick {P : Program} {w : World} {K : PySem.W.Frag} {mg : Str → Option Value} {base : Heap} (T : Bl mg)
  {f : Addr} (cdv : Value) (A : Around) (outer : List PySem.Env) (s : Shared) (H : Hp) (E : XK) (S0 : Hp) (W : PX) (hr : Room 0 (A.deeper (PyProof.Rows.envOfC "_law_pick" (defScope s_law_pick) s.heap.objs.size f cdv)))
  (tk : Takes (cxA P w K mg base N_law_pick "_law_pick" s_law_pick f cdv A outer s H E) (fun cls d _ H' => XW K S0 W cls d H')) :
  AB (cxA P w K mg base N_law_pick "_law_pick" s_law_pick f cdv A outer s H E) S0 (defBody s_law_pick) (b_law_pick  W) :=
  (ab_cons (as_set 2 (ae_ix (ae_var 0) ae_i) sc_law_pick.nd)
  (ab_cons (as_while (passes_of rfl) (aw_at (aw_and (at_gt (ae_len T.len (aa_cons (ae_var 2) aa_nil)) ae_i) (at_and1 (at_eq (ae_ix (ae_var 2) (ae_neg ae_i)) ae_i)))) (ab_one (as_expr (ae_pop (ae_var 2)))))
  (ab_cut (as_if (at_gt (ae_len T.len (aa_cons (ae_var 2) aa_nil)) ae_i) (ab_cons (as_set 3 (ae_mod (ae_int T.int (aa_cons (ae_ix (ae_var 2) (ae_neg ae_i)) aa_nil)) (ae_var 1)) sc_law_pick.nd)
  (ab_cons (as_asg (ae_fdiv (ae_int T.int (aa_cons (ae_ix (ae_var 2) (ae_neg ae_i)) aa_nil)) (ae_var 1)) (ag_sub (ae_var 2) (ae_neg ae_i)))
  (ab_one (as_ret (ae_var 3))))) ab_nil)
  (ab_cons (as_asg (ae_mod (ae_add (ae_mul (ae_ix (ae_ix (ae_var 0) ae_i) ae_i) ae_i) ae_i) ae_i) (ag_sub (ae_ix (ae_var 0) ae_i) ae_i))
  (ab_one (as_ret (ae_mod (ae_fdiv (ae_ix (ae_ix (ae_var 0) ae_i) ae_i) ae_i) (ae_var 1))))))))
/-! law_same: level 1 -/
abbrev s_law_same : Stmt := topS 32
abbrev N_law_same : List Str := ["told", "due", "rows", "pair", "one", "two", "k"]
theorem sc_law_same : L2.FnScope N_law_same ["told", "due"] (defScope s_law_same) := ⟨rfl, rfl, rfl, by decide +kernel, rfl, by decide +kernel, by decide +kernel⟩
def b_law_same  (W : PX) : AbS :=
  (aSeq (aSet 2 (aLstB (aCons (aTup (aCons (aVar 0) (aCons (aVar 1) aNil))) aNil)))
  (aSeq (aWhile (aTest (aOp fGt (aCa fLen (aCons (aVar 2) aNil)) (aC (.int 0)))) (aSeq (aSet 3 (aML fPop (aVar 2) aNil))
  (aSeq (aSet 4 (aOp fIx (aVar 3) (aC (.int 0))))
  (aSeq (aSet 5 (aOp fIx (aVar 3) (aC (.int 1))))
  (aIf (aTru (aCa fIsi (aCons (aVar 5) (aCons (aC (.ty "tuple")) aNil)))) (aCut (aIf (aOr (aNot (aTru (aCa fIsi (aCons (aVar 4) (aCons (aC (.ty "tuple")) aNil))))) (aTest (aOp fNe (aCa fLen (aCons (aVar 4) aNil)) (aCa fLen (aCons (aVar 5) aNil))))) (aRet (aC (.bl false))) aNext)
  (aForR false (aCons (aCa fLen (aCons (aVar 5) aNil)) aNil) 6 (aDo (aML fApp (aVar 2) (aCons (aTup (aCons (aOp fIx (aVar 4) (aVar 6)) (aCons (aOp fIx (aVar 5) (aVar 6)) aNil))) aNil))))) (aIf (aTest (aOp (fIsN false) (aVar 5) (aC .non))) (aIf (aTest (aOp (fIsN true) (aVar 4) (aC .non))) (aRet (aC (.bl false))) aNext) (aIf (aTru (aCa fIsi (aCons (aVar 5) (aCons (aC (.ty "bool")) aNil)))) (aIf (aOr (aNot (aTru (aCa fIsi (aCons (aVar 4) (aCons (aC (.ty "bool")) aNil))))) (aTest (aOp fNe (aVar 4) (aVar 5)))) (aRet (aC (.bl false))) aNext) (aIf (aTru (aCa fIsi (aCons (aVar 5) (aCons (aC (.ty "int")) aNil)))) (aIf (aOr (aTru (aCa fIsi (aCons (aVar 4) (aCons (aC (.ty "bool")) aNil)))) (aOr (aNot (aTru (aCa fIsi (aCons (aVar 4) (aCons (aC (.ty "int")) aNil))))) (aTest (aOp fNe (aVar 4) (aVar 5))))) (aRet (aC (.bl false))) aNext) (aIf (aTru (aCa fIsi (aCons (aVar 5) (aCons (aC (.ty "str")) aNil)))) (aIf (aOr (aNot (aTru (aCa fIsi (aCons (aVar 4) (aCons (aC (.ty "str")) aNil))))) (aTest (aOp fNe (aVar 4) (aVar 5)))) (aRet (aC (.bl false))) aNext) (aRet (aC (.bl false))))))))))))
  (aRet (aC (.bl true)))))
theorem ab_law_same {P : Program} {w : World} {K : PySem.W.Frag} {mg : Str → Option Value} {base : Heap} (T : Bl mg)
  {f : Addr} (cdv : Value) (A : Around) (outer : List PySem.Env) (s : Shared) (H : Hp) (E : XK) (S0 : Hp) (W : PX) (hr : Room 0 (A.deeper (PyProof.Rows.envOfC "_law_same" (defScope s_law_same) s.heap.objs.size f cdv)))
  (tk : Takes (cxA P w K mg base N_law_same "_law_same" s_law_same f cdv A outer s H E) (fun cls d _ H' => XW K S0 W cls d H')) :
  AB (cxA P w K mg base N_law_same "_law_same" s_law_same f cdv A outer s H E) S0 (defBody s_law_same) (b_law_same  W) :=
  (ab_cons (as_set 2 (ae_lstB (aa_cons (ae_tup (aa_cons (ae_var 0) (aa_cons (ae_var 1) aa_nil))) aa_nil)) sc_law_same.nd)
  (ab_cons (as_while (passes_of rfl) (at_gt (ae_len T.len (aa_cons (ae_var 2) aa_nil)) ae_i) (ab_cons (as_set 3 (ae_pop (ae_var 2)) sc_law_same.nd)
  (ab_cons (as_set 4 (ae_ix (ae_var 3) ae_i) sc_law_same.nd)
  (ab_cons (as_set 5 (ae_ix (ae_var 3) ae_i) sc_law_same.nd)
  (ab_one (as_if (at_tru (ae_isi T.isi (aa_cons (ae_var 5) (aa_cons (ae_ty "tuple" T.tuple (by decide +kernel)) aa_nil)))) (ab_cut (as_if (aw_at (aw_or (at_not (at_tru (ae_isi T.isi (aa_cons (ae_var 4) (aa_cons (ae_ty "tuple" T.tuple (by decide +kernel)) aa_nil))))) (at_or1 (at_ne (ae_len T.len (aa_cons (ae_var 4) aa_nil)) (ae_len T.len (aa_cons (ae_var 5) aa_nil)))))) (ab_one (as_ret ae_b)) ab_nil)
  (ab_one (as_forR1 6 (passes_of rfl) rfl T.range (aa_cons (ae_len T.len (aa_cons (ae_var 5) aa_nil)) aa_nil) sc_law_same.nd (ab_one (as_expr (ae_app (ae_var 2) (aa_cons (ae_tup (aa_cons (ae_ix (ae_var 4) (ae_var 6)) (aa_cons (ae_ix (ae_var 5) (ae_var 6)) aa_nil))) aa_nil))))))) (ab_one (as_if (at_isN (ae_var 5) ae_n) (ab_one (as_if (at_notN (ae_var 4) ae_n) (ab_one (as_ret ae_b)) ab_nil)) (ab_one (as_if (at_tru (ae_isi T.isi (aa_cons (ae_var 5) (aa_cons (ae_ty "bool" T.bool (by decide +kernel)) aa_nil)))) (ab_one (as_if (aw_at (aw_or (at_not (at_tru (ae_isi T.isi (aa_cons (ae_var 4) (aa_cons (ae_ty "bool" T.bool (by decide +kernel)) aa_nil))))) (at_or1 (at_ne (ae_var 4) (ae_var 5))))) (ab_one (as_ret ae_b)) ab_nil)) (ab_one (as_if (at_tru (ae_isi T.isi (aa_cons (ae_var 5) (aa_cons (ae_ty "int" T.int (by decide +kernel)) aa_nil)))) (ab_one (as_if (aw_at (aw_or (at_tru (ae_isi T.isi (aa_cons (ae_var 4) (aa_cons (ae_ty "bool" T.bool (by decide +kernel)) aa_nil)))) (aw_or (at_not (at_tru (ae_isi T.isi (aa_cons (ae_var 4) (aa_cons (ae_ty "int" T.int (by decide +kernel)) aa_nil))))) (at_or1 (at_ne (ae_var 4) (ae_var 5)))))) (ab_one (as_ret ae_b)) ab_nil)) (ab_one (as_if (at_tru (ae_isi T.isi (aa_cons (ae_var 5) (aa_cons (ae_ty "str" T.str (by decide +kernel)) aa_nil)))) (ab_one (as_if (aw_at (aw_or (at_not (at_tru (ae_isi T.isi (aa_cons (ae_var 4) (aa_cons (ae_ty "str" T.str (by decide +kernel)) aa_nil))))) (at_or1 (at_ne (ae_var 4) (ae_var 5))))) (ab_one (as_ret ae_b)) ab_nil)) (ab_one (as_ret ae_b))))))))))))))))
  (ab_one (as_ret ae_b))))
/-! law_marks: level 2 -/
abbrev s_law_marks : Stmt := topS 33
abbrev N_law_marks : List Str := ["tape", "names", "at", "marks", "k"]
theorem sc_law_marks : L2.FnScope N_law_marks ["tape"] (defScope s_law_marks) := ⟨rfl, rfl, rfl, by decide +kernel, rfl, by decide +kernel, by decide +kernel⟩
def b_law_marks (sp_law_pick : ASp) (W : PX) : AbS :=
  (aSeq (aSet 1 (aLst (aCons (aC (.str "b")) (aCons (aC (.str "ab")) (aCons (aC (.str "a-9")) (aCons (aC (.str "zz0")) (aCons (aC (.str "q")) (aCons (aC (.str "abcdefghijklmnop")) (aCons (aC (.str "c")) (aCons (aC (.str "b-")) aNil))))))))))
  (aSeq (aSet 2 (aCall sp_law_pick (aCons (aVar 0) (aCons (aC (.int 8)) aNil))))
  (aSeq (aSet 3 (aLstB (aCons (aTup (aCons (aOp fIx (aVar 1) (aVar 2)) (aCons (aC (.int 0)) aNil))) (aCons (aTup (aCons (aOp fIx (aVar 1) (aOp fMod (aOp fAdd (aVar 2) (aC (.int 1))) (aC (.int 8)))) (aCons (aC (.int 0)) aNil))) aNil))))
  (aCut (aIf (aTest (aOp fEq (aCall sp_law_pick (aCons (aVar 0) (aCons (aC (.int 4)) aNil))) (aC (.int 1)))) (aAsg (aTup (aCons (aC (.str ".")) (aCons (aC (.int 0)) aNil))) (kSub (aVar 3) (aC (.int 1)))) aNext)
  (aSeq (aForR false (aCons (aOp fAdd (aC (.int 1)) (aCall sp_law_pick (aCons (aVar 0) (aCons (aC (.int 5)) aNil)))) aNil) 4 (aDo (aML fApp (aVar 3) (aCons (aTup (aCons (aOp fIx (aVar 1) (aOp fMod (aOp fAdd (aVar 2) (aCall sp_law_pick (aCons (aVar 0) (aCons (aC (.int 8)) aNil)))) (aC (.int 8)))) (aCons (aOp fIx (aLst (aCons (aC (.int 1)) (aCons (aC (.int 2)) (aCons (aC (.int 1)) (aCons (aC (.int 2)) (aCons (aC (.int 3)) (aCons (aC (.int 4)) (aCons (aC (.int 0)) aNil)))))))) (aCall sp_law_pick (aCons (aVar 0) (aCons (aC (.int 7)) aNil)))) aNil))) aNil))))
  (aRet (aVar 3)))))))
theorem ab_law_marks {P : Program} {w : World} {K : PySem.W.Frag} {mg : Str → Option Value} {base : Heap} {sp_law_pick : ASp} (Glaw_pick : Cal P w K mg base 1 "_law_pick" ["tape", "many"] sp_law_pick) (T : Bl mg)
  {f : Addr} (cdv : Value) (A : Around) (outer : List PySem.Env) (s : Shared) (H : Hp) (E : XK) (S0 : Hp) (W : PX) (hr : Room 1 (A.deeper (PyProof.Rows.envOfC "_law_marks" (defScope s_law_marks) s.heap.objs.size f cdv)))
  (tk : Takes (cxA P w K mg base N_law_marks "_law_marks" s_law_marks f cdv A outer s H E) (fun cls d _ H' => XW K S0 W cls d H')) :
  AB (cxA P w K mg base N_law_marks "_law_marks" s_law_marks f cdv A outer s H E) S0 (defBody s_law_marks) (b_law_marks sp_law_pick W) :=
  (ab_cons (as_set 1 (ae_lst (aa_cons ae_s (aa_cons ae_s (aa_cons ae_s (aa_cons ae_s (aa_cons ae_s (aa_cons ae_s (aa_cons ae_s (aa_cons ae_s aa_nil))))))))) sc_law_marks.nd)
  (ab_cons (as_set 2 (ae_cal Glaw_pick (hr.mono (by decide)) (aa_cons (ae_var 0) (aa_cons ae_i aa_nil))) sc_law_marks.nd)
  (ab_cons (as_set 3 (ae_lstB (aa_cons (ae_tup (aa_cons (ae_ix (ae_var 1) (ae_var 2)) (aa_cons ae_i aa_nil))) (aa_cons (ae_tup (aa_cons (ae_ix (ae_var 1) (ae_mod (ae_add (ae_var 2) ae_i) ae_i)) (aa_cons ae_i aa_nil))) aa_nil))) sc_law_marks.nd)
  (ab_cut (as_if (at_eq (ae_cal Glaw_pick (hr.mono (by decide)) (aa_cons (ae_var 0) (aa_cons ae_i aa_nil))) ae_i) (ab_one (as_asg (ae_tup (aa_cons ae_s (aa_cons ae_i aa_nil))) (ag_sub (ae_var 3) ae_i))) ab_nil)
  (ab_cons (as_forR1 4 (passes_of rfl) rfl T.range (aa_cons (ae_add ae_i (ae_cal Glaw_pick (hr.mono (by decide)) (aa_cons (ae_var 0) (aa_cons ae_i aa_nil)))) aa_nil) sc_law_marks.nd (ab_one (as_expr (ae_app (ae_var 3) (aa_cons (ae_tup (aa_cons (ae_ix (ae_var 1) (ae_mod (ae_add (ae_var 2) (ae_cal Glaw_pick (hr.mono (by decide)) (aa_cons (ae_var 0) (aa_cons ae_i aa_nil)))) ae_i)) (aa_cons (ae_ix (ae_lst (aa_cons ae_i (aa_cons ae_i (aa_cons ae_i (aa_cons ae_i (aa_cons ae_i (aa_cons ae_i (aa_cons ae_i aa_nil)))))))) (ae_cal Glaw_pick (hr.mono (by decide)) (aa_cons (ae_var 0) (aa_cons ae_i aa_nil)))) aa_nil))) aa_nil)))))
  (ab_one (as_ret (ae_var 3))))))))
/-! law_tree: level 2 -/
abbrev s_law_tree : Stmt := topS 34
abbrev N_law_tree : List Str := ["tape", "marks", "most", "row", "need_v", "mark"]
theorem sc_law_tree : L2.FnScope N_law_tree ["tape", "marks", "most"] (defScope s_law_tree) := ⟨rfl, rfl, rfl, by decide +kernel, rfl, by decide +kernel, by decide +kernel⟩
def b_law_tree (sp_law_pick : ASp) (W : PX) : AbS :=
  (aSeq (aSet 3 (aLstB aNil))
  (aSeq (aSet 4 (aC (.int 1)))
  (aSeq (aWhile (aTest (aOp fGt (aVar 4) (aC (.int 0)))) (aSeq (aSet 5 (aOp fIx (aVar 1) (aCall sp_law_pick (aCons (aVar 0) (aCons (aCa fLen (aCons (aVar 1) aNil)) aNil)))))
  (aCut (aIf (aTest (aOp fGt (aOp fIx (aVar 5) (aC (.int 1))) (aOp fSub (aOp fSub (aVar 2) (aCa fLen (aCons (aVar 3) aNil))) (aVar 4)))) (aSet 5 (aOp fIx (aVar 1) (aCall sp_law_pick (aCons (aVar 0) (aCons (aC (.int 2)) aNil))))) aNext)
  (aSeq (aDo (aML fApp (aVar 3) (aCons (aVar 5) aNil)))
  (aSet 4 (aOp fAdd (aOp fSub (aVar 4) (aC (.int 1))) (aOp fIx (aVar 5) (aC (.int 1)))))))))
  (aRet (aCa fTuple (aCons (aVar 3) aNil))))))
theorem ab_law_tree {P : Program} {w : World} {K : PySem.W.Frag} {mg : Str → Option Value} {base : Heap} {sp_law_pick : ASp} (Glaw_pick : Cal P w K mg base 1 "_law_pick" ["tape", "many"] sp_law_pick) (T : Bl mg)
  {f : Addr} (cdv : Value) (A : Around) (outer : List PySem.Env) (s : Shared) (H : Hp) (E : XK) (S0 : Hp) (W : PX) (hr : Room 1 (A.deeper (PyProof.Rows.envOfC "_law_tree" (defScope s_law_tree) s.heap.objs.size f cdv)))
  (tk : Takes (cxA P w K mg base N_law_tree "_law_tree" s_law_tree f cdv A outer s H E) (fun cls d _ H' => XW K S0 W cls d H')) :
  AB (cxA P w K mg base N_law_tree "_law_tree" s_law_tree f cdv A outer s H E) S0 (defBody s_law_tree) (b_law_tree sp_law_pick W) :=
  (ab_cons (as_set 3 (ae_lstB aa_nil) sc_law_tree.nd)
  (ab_cons (as_set 4 ae_i sc_law_tree.nd)
  (ab_cons (as_while (passes_of rfl) (at_gt (ae_var 4) ae_i) (ab_cons (as_set 5 (ae_ix (ae_var 1) (ae_cal Glaw_pick (hr.mono (by decide)) (aa_cons (ae_var 0) (aa_cons (ae_len T.len (aa_cons (ae_var 1) aa_nil)) aa_nil)))) sc_law_tree.nd)
  (ab_cut (as_if (at_gt (ae_ix (ae_var 5) ae_i) (ae_sub (ae_sub (ae_var 2) (ae_len T.len (aa_cons (ae_var 3) aa_nil))) (ae_var 4))) (ab_one (as_set 5 (ae_ix (ae_var 1) (ae_cal Glaw_pick (hr.mono (by decide)) (aa_cons (ae_var 0) (aa_cons ae_i aa_nil)))) sc_law_tree.nd)) ab_nil)
  (ab_cons (as_expr (ae_app (ae_var 3) (aa_cons (ae_var 5) aa_nil)))
  (ab_one (as_set 4 (ae_add (ae_sub (ae_var 4) ae_i) (ae_ix (ae_var 5) ae_i)) sc_law_tree.nd))))))
  (ab_one (as_ret (ae_tuple T.tuple (aa_cons (ae_var 3) aa_nil)))))))
/-! law_numbers: level 1 -/
abbrev s_law_numbers : Stmt := topS 35
abbrev N_law_numbers : List Str := ["row", "found", "mark", "sign"]
theorem sc_law_numbers : L2.FnScope N_law_numbers ["row"] (defScope s_law_numbers) := ⟨rfl, rfl, rfl, by decide +kernel, rfl, by decide +kernel, by decide +kernel⟩
def b_law_numbers  (W : PX) : AbS :=
  (aSeq (aSet 1 (aLstB (aCons (aCa fLen (aCons (aVar 0) aNil)) aNil)))
  (aSeq (aFor (aVar 0) (kName 2) (aSeq (aForT (aOp fIx (aVar 2) (aC (.int 0))) (kName 3) (aDo (aML fApp (aVar 1) (aCons (aCa fOrd (aCons (aVar 3) aNil)) aNil))))
  (aSeq (aDo (aML fApp (aVar 1) (aCons (aUn fNeg (aC (.int 1))) aNil)))
  (aDo (aML fApp (aVar 1) (aCons (aOp fIx (aVar 2) (aC (.int 1))) aNil))))))
  (aRet (aVar 1))))
theorem ab_law_numbers {P : Program} {w : World} {K : PySem.W.Frag} {mg : Str → Option Value} {base : Heap} (T : Bl mg)
  {f : Addr} (cdv : Value) (A : Around) (outer : List PySem.Env) (s : Shared) (H : Hp) (E : XK) (S0 : Hp) (W : PX) (hr : Room 0 (A.deeper (PyProof.Rows.envOfC "_law_numbers" (defScope s_law_numbers) s.heap.objs.size f cdv)))
  (tk : Takes (cxA P w K mg base N_law_numbers "_law_numbers" s_law_numbers f cdv A outer s H E) (fun cls d _ H' => XW K S0 W cls d H')) :
  AB (cxA P w K mg base N_law_numbers "_law_numbers" s_law_numbers f cdv A outer s H E) S0 (defBody s_law_numbers) (b_law_numbers  W) :=
  (ab_cons (as_set 1 (ae_lstB (aa_cons (ae_len T.len (aa_cons (ae_var 0) aa_nil)) aa_nil)) sc_law_numbers.nd)
  (ab_cons (as_for (passes_of rfl) rfl (ae_var 0) (ag_name 2 sc_law_numbers.nd) (ab_cons (as_forT (passes_of rfl) rfl (ae_ix (ae_var 2) ae_i) (ag_name 3 sc_law_numbers.nd) (ab_one (as_expr (ae_app (ae_var 1) (aa_cons (ae_ord T.ord (aa_cons (ae_var 3) aa_nil)) aa_nil)))))
  (ab_cons (as_expr (ae_app (ae_var 1) (aa_cons (ae_neg ae_i) aa_nil)))
  (ab_one (as_expr (ae_app (ae_var 1) (aa_cons (ae_ix (ae_var 2) ae_i) aa_nil)))))))
  (ab_one (as_ret (ae_var 1)))))
/-! law_before: level 2 -/
abbrev s_law_before : Stmt := topS 36
abbrev N_law_before : List Str := ["one", "two", "first", "second", "k"]
theorem sc_law_before : L2.FnScope N_law_before ["one", "two"] (defScope s_law_before) := ⟨rfl, rfl, rfl, by decide +kernel, rfl, by decide +kernel, by decide +kernel⟩
def b_law_before (sp_law_numbers : ASp) (W : PX) : AbS :=
  (aSeq (aSet 2 (aCall sp_law_numbers (aCons (aVar 0) aNil)))
  (aSeq (aSet 3 (aCall sp_law_numbers (aCons (aVar 1) aNil)))
  (aSeq (aForR false (aCons (aCa fMin (aCons (aCa fLen (aCons (aVar 2) aNil)) (aCons (aCa fLen (aCons (aVar 3) aNil)) aNil))) aNil) 4 (aIf (aTest (aOp fNe (aOp fIx (aVar 2) (aVar 4)) (aOp fIx (aVar 3) (aVar 4)))) (aRet (aOp fLt (aOp fIx (aVar 2) (aVar 4)) (aOp fIx (aVar 3) (aVar 4)))) aNext))
  (aRet (aC (.bl false))))))
theorem ab_law_before {P : Program} {w : World} {K : PySem.W.Frag} {mg : Str → Option Value} {base : Heap} {sp_law_numbers : ASp} (Glaw_numbers : Cal P w K mg base 1 "_law_numbers" ["row"] sp_law_numbers) (T : Bl mg)
  {f : Addr} (cdv : Value) (A : Around) (outer : List PySem.Env) (s : Shared) (H : Hp) (E : XK) (S0 : Hp) (W : PX) (hr : Room 1 (A.deeper (PyProof.Rows.envOfC "_law_before" (defScope s_law_before) s.heap.objs.size f cdv)))
  (tk : Takes (cxA P w K mg base N_law_before "_law_before" s_law_before f cdv A outer s H E) (fun cls d _ H' => XW K S0 W cls d H')) :
  AB (cxA P w K mg base N_law_before "_law_before" s_law_before f cdv A outer s H E) S0 (defBody s_law_before) (b_law_before sp_law_numbers W) :=
  (ab_cons (as_set 2 (ae_cal Glaw_numbers (hr.mono (by decide)) (aa_cons (ae_var 0) aa_nil)) sc_law_before.nd)
  (ab_cons (as_set 3 (ae_cal Glaw_numbers (hr.mono (by decide)) (aa_cons (ae_var 1) aa_nil)) sc_law_before.nd)
  (ab_cons (as_forR1 4 (passes_of rfl) rfl T.range (aa_cons (ae_min rfl T.min (aa_cons (ae_len T.len (aa_cons (ae_var 2) aa_nil)) (aa_cons (ae_len T.len (aa_cons (ae_var 3) aa_nil)) aa_nil))) aa_nil) sc_law_before.nd (ab_one (as_if (at_ne (ae_ix (ae_var 2) (ae_var 4)) (ae_ix (ae_var 3) (ae_var 4))) (ab_one (as_ret (ae_lt (ae_ix (ae_var 2) (ae_var 4)) (ae_ix (ae_var 3) (ae_var 4))))) ab_nil)))
  (ab_one (as_ret ae_b)))))
/-! law_far: level 1 -/
abbrev s_law_far : Stmt := topS 37
abbrev N_law_far : List Str := ["row", "at", "need_v"]
theorem sc_law_far : L2.FnScope N_law_far ["row", "at"] (defScope s_law_far) := ⟨rfl, rfl, rfl, by decide +kernel, rfl, by decide +kernel, by decide +kernel⟩
def b_law_far  (W : PX) : AbS :=
  (aSeq (aSet 2 (aC (.int 1)))
  (aSeq (aWhile (aTest (aOp fGt (aVar 2) (aC (.int 0)))) (aSeq (aSet 2 (aOp fSub (aOp fAdd (aVar 2) (aOp fIx (aOp fIx (aVar 0) (aVar 1)) (aC (.int 1)))) (aC (.int 1))))
  (aSet 1 (aOp fAdd (aVar 1) (aC (.int 1))))))
  (aRet (aVar 1))))
theorem ab_law_far {P : Program} {w : World} {K : PySem.W.Frag} {mg : Str → Option Value} {base : Heap} 
  {f : Addr} (cdv : Value) (A : Around) (outer : List PySem.Env) (s : Shared) (H : Hp) (E : XK) (S0 : Hp) (W : PX) (hr : Room 0 (A.deeper (PyProof.Rows.envOfC "_law_far" (defScope s_law_far) s.heap.objs.size f cdv)))
  (tk : Takes (cxA P w K mg base N_law_far "_law_far" s_law_far f cdv A outer s H E) (fun cls d _ H' => XW K S0 W cls d H')) :
  AB (cxA P w K mg base N_law_far "_law_far" s_law_far f cdv A outer s H E) S0 (defBody s_law_far) (b_law_far  W) :=
  (ab_cons (as_set 2 ae_i sc_law_far.nd)
  (ab_cons (as_while (passes_of rfl) (at_gt (ae_var 2) ae_i) (ab_cons (as_set 2 (ae_sub (ae_add (ae_var 2) (ae_ix (ae_ix (ae_var 0) (ae_var 1)) ae_i)) ae_i) sc_law_far.nd)
  (ab_one (as_set 1 (ae_add (ae_var 1) ae_i) sc_law_far.nd))))
  (ab_one (as_ret (ae_var 1)))))
/-! law_more: level 2 -/
abbrev s_law_more : Stmt := topS 38
abbrev N_law_more : List Str := ["tape", "words", "at", "step", "more", "k"]
theorem sc_law_more : L2.FnScope N_law_more ["tape"] (defScope s_law_more) := ⟨rfl, rfl, rfl, by decide +kernel, rfl, by decide +kernel, by decide +kernel⟩
def b_law_more (sp_law_pick : ASp) (W : PX) : AbS :=
  (aSeq (aSet 1 (aLst (aCons (aC (.str "a")) (aCons (aC (.str "b")) (aCons (aC (.str "b-")) (aCons (aC (.str "b-9")) (aCons (aC (.str "ab")) (aCons (aC (.str "a-9")) (aCons (aC (.str "a0")) (aCons (aC (.str "zz0")) (aCons (aC (.str "q")) (aCons (aC (.str "c")) (aCons (aC (.str "ba")) (aCons (aC (.str "b0")) aNil))))))))))))))
  (aSeq (aSet 2 (aCall sp_law_pick (aCons (aVar 0) (aCons (aC (.int 12)) aNil))))
  (aSeq (aSet 3 (aOp fIx (aLst (aCons (aC (.int 1)) (aCons (aC (.int 5)) (aCons (aC (.int 7)) (aCons (aC (.int 11)) aNil))))) (aCall sp_law_pick (aCons (aVar 0) (aCons (aC (.int 4)) aNil)))))
  (aSeq (aSet 4 (aLcR true (aCons (aC (.int 4)) aNil) [5] (kName 5) aYes (aTup (aCons (aOp fIx (aVar 1) (aOp fMod (aOp fAdd (aVar 2) (aOp fMul (aVar 3) (aVar 5))) (aC (.int 12)))) (aCons (aOp fIx (aLst (aCons (aC (.int 0)) (aCons (aC (.int 1)) (aCons (aC (.int 1)) (aCons (aC (.int 2)) aNil))))) (aVar 5)) aNil)))))
  (aRet (aOp fAdd (aVar 4) (aLst (aCons (aTup (aCons (aOp fIx (aOp fIx (aVar 4) (aC (.int 1))) (aC (.int 0))) (aCons (aC (.int 0)) aNil))) aNil))))))))
theorem ab_law_more {P : Program} {w : World} {K : PySem.W.Frag} {mg : Str → Option Value} {base : Heap} {sp_law_pick : ASp} (Glaw_pick : Cal P w K mg base 1 "_law_pick" ["tape", "many"] sp_law_pick) (T : Bl mg)
  {f : Addr} (cdv : Value) (A : Around) (outer : List PySem.Env) (s : Shared) (H : Hp) (E : XK) (S0 : Hp) (W : PX) (hr : Room 1 (A.deeper (PyProof.Rows.envOfC "_law_more" (defScope s_law_more) s.heap.objs.size f cdv)))
  (tk : Takes (cxA P w K mg base N_law_more "_law_more" s_law_more f cdv A outer s H E) (fun cls d _ H' => XW K S0 W cls d H')) :
  AB (cxA P w K mg base N_law_more "_law_more" s_law_more f cdv A outer s H E) S0 (defBody s_law_more) (b_law_more sp_law_pick W) :=
  (ab_cons (as_set 1 (ae_lst (aa_cons ae_s (aa_cons ae_s (aa_cons ae_s (aa_cons ae_s (aa_cons ae_s (aa_cons ae_s (aa_cons ae_s (aa_cons ae_s (aa_cons ae_s (aa_cons ae_s (aa_cons ae_s (aa_cons ae_s aa_nil))))))))))))) sc_law_more.nd)
  (ab_cons (as_set 2 (ae_cal Glaw_pick (hr.mono (by decide)) (aa_cons (ae_var 0) (aa_cons ae_i aa_nil))) sc_law_more.nd)
  (ab_cons (as_set 3 (ae_ix (ae_lst (aa_cons ae_i (aa_cons ae_i (aa_cons ae_i (aa_cons ae_i aa_nil))))) (ae_cal Glaw_pick (hr.mono (by decide)) (aa_cons (ae_var 0) (aa_cons ae_i aa_nil)))) sc_law_more.nd)
  (ab_cons (as_setLcR (own := [("k", 5)]) 4 true rfl sc_law_more.nd (blkOk_by (own := [("k", 5)]) (N := N_law_more) (sc := defScope s_law_more) (by decide +kernel)) T.range (aa_cons ae_i aa_nil) (acg_name 5 (by decide) (fun _ _ _ _ _ => pg_name (i := 5) sc_law_more.nd rfl (by first | exact Or.inl rfl | exact Or.inr rfl))) ats_nil (fun _ _ _ _ _ => (ae_tup (aa_cons (ae_ix (ae_var 1) (ae_mod (ae_add (ae_var 2) (ae_mul (ae_var 3) (ae_var 5))) ae_i)) (aa_cons (ae_ix (ae_lst (aa_cons ae_i (aa_cons ae_i (aa_cons ae_i (aa_cons ae_i aa_nil))))) (ae_var 5)) aa_nil)))) (sw_true rfl rfl rfl (by decide +kernel)))
  (ab_one (as_ret (ae_add (ae_var 4) (ae_lst (aa_cons (ae_tup (aa_cons (ae_ix (ae_ix (ae_var 4) ae_i) ae_i) (aa_cons ae_i aa_nil))) aa_nil)))))))))
/-! law_twin: level 3 -/
abbrev s_law_twin : Stmt := topS 39
abbrev N_law_twin : List Str := ["tape", "marks", "more", "tall", "at", "way", "like", "mark"]
theorem sc_law_twin : L2.FnScope N_law_twin ["tape", "marks", "more", "tall"] (defScope s_law_twin) := ⟨rfl, rfl, rfl, by decide +kernel, rfl, by decide +kernel, by decide +kernel⟩
def b_law_twin (sp_law_far sp_law_pick sp_law_tree : ASp) (W : PX) : AbS :=
  (aSeq (aSet 4 (aCall sp_law_pick (aCons (aVar 0) (aCons (aCa fLen (aCons (aVar 3) aNil)) aNil))))
  (aSeq (aSet 5 (aCall sp_law_pick (aCons (aVar 0) (aCons (aC (.int 4)) aNil))))
  (aCut (aIf (aTest (aOp fEq (aVar 5) (aC (.int 0)))) (aRet (aOp fAdd (aOp fAdd (aSl (aVar 3) aNo (aPart (aVar 4))) (aCall sp_law_tree (aCons (aVar 0) (aCons (aVar 1) (aCons (aOp fAdd (aC (.int 1)) (aCall sp_law_pick (aCons (aVar 0) (aCons (aC (.int 5)) aNil)))) aNil))))) (aSl (aVar 3) (aPart (aCall sp_law_far (aCons (aVar 3) (aCons (aVar 4) aNil)))) aNo))) aNext)
  (aCut (aIf (aTest (aOp fEq (aVar 5) (aC (.int 1)))) (aRet (aOp fAdd (aOp fAdd (aSl (aVar 3) aNo (aPart (aVar 4))) (aTup (aCons (aOp fIx (aVar 2) (aOp fAdd (aC (.int 1)) (aCall sp_law_pick (aCons (aVar 0) (aCons (aC (.int 2)) aNil))))) aNil))) (aSl (aVar 3) (aPart (aVar 4)) aNo))) aNext)
  (aSeq (aSet 6 (aLc true (aOp fAdd (aVar 1) (aVar 2)) [7] (kName 7) (aTest (aOp fEq (aOp fIx (aVar 7) (aC (.int 1))) (aOp fIx (aOp fIx (aVar 3) (aVar 4)) (aC (.int 1))))) (aVar 7)))
  (aRet (aOp fAdd (aOp fAdd (aSl (aVar 3) aNo (aPart (aVar 4))) (aTup (aCons (aOp fIx (aVar 6) (aCall sp_law_pick (aCons (aVar 0) (aCons (aCa fLen (aCons (aVar 6) aNil)) aNil)))) aNil))) (aSl (aVar 3) (aPart (aOp fAdd (aVar 4) (aC (.int 1)))) aNo))))))))
theorem ab_law_twin {P : Program} {w : World} {K : PySem.W.Frag} {mg : Str → Option Value} {base : Heap} {sp_law_far sp_law_pick sp_law_tree : ASp} (Glaw_far : Cal P w K mg base 1 "_law_far" ["row", "at"] sp_law_far) (Glaw_pick : Cal P w K mg base 1 "_law_pick" ["tape", "many"] sp_law_pick) (Glaw_tree : Cal P w K mg base 2 "_law_tree" ["tape", "marks", "most"] sp_law_tree) (T : Bl mg)
  {f : Addr} (cdv : Value) (A : Around) (outer : List PySem.Env) (s : Shared) (H : Hp) (E : XK) (S0 : Hp) (W : PX) (hr : Room 2 (A.deeper (PyProof.Rows.envOfC "_law_twin" (defScope s_law_twin) s.heap.objs.size f cdv)))
  (tk : Takes (cxA P w K mg base N_law_twin "_law_twin" s_law_twin f cdv A outer s H E) (fun cls d _ H' => XW K S0 W cls d H')) :
  AB (cxA P w K mg base N_law_twin "_law_twin" s_law_twin f cdv A outer s H E) S0 (defBody s_law_twin) (b_law_twin sp_law_far sp_law_pick sp_law_tree W) :=
  (ab_cons (as_set 4 (ae_cal Glaw_pick (hr.mono (by decide)) (aa_cons (ae_var 0) (aa_cons (ae_len T.len (aa_cons (ae_var 3) aa_nil)) aa_nil))) sc_law_twin.nd)
  (ab_cons (as_set 5 (ae_cal Glaw_pick (hr.mono (by decide)) (aa_cons (ae_var 0) (aa_cons ae_i aa_nil))) sc_law_twin.nd)
  (ab_cut (as_if (at_eq (ae_var 5) ae_i) (ab_one (as_ret (ae_add (ae_add (ae_sl (ae_var 3) ao_none (ao_some (ae_var 4))) (ae_cal Glaw_tree (hr.mono (by decide)) (aa_cons (ae_var 0) (aa_cons (ae_var 1) (aa_cons (ae_add ae_i (ae_cal Glaw_pick (hr.mono (by decide)) (aa_cons (ae_var 0) (aa_cons ae_i aa_nil)))) aa_nil))))) (ae_sl (ae_var 3) (ao_some (ae_cal Glaw_far (hr.mono (by decide)) (aa_cons (ae_var 3) (aa_cons (ae_var 4) aa_nil)))) ao_none)))) ab_nil)
  (ab_cut (as_if (at_eq (ae_var 5) ae_i) (ab_one (as_ret (ae_add (ae_add (ae_sl (ae_var 3) ao_none (ao_some (ae_var 4))) (ae_tup (aa_cons (ae_ix (ae_var 2) (ae_add ae_i (ae_cal Glaw_pick (hr.mono (by decide)) (aa_cons (ae_var 0) (aa_cons ae_i aa_nil))))) aa_nil))) (ae_sl (ae_var 3) (ao_some (ae_var 4)) ao_none)))) ab_nil)
  (ab_cons (as_setLc (own := [("mark", 7)]) 6 true rfl sc_law_twin.nd (blkOk_by (own := [("mark", 7)]) (N := N_law_twin) (sc := defScope s_law_twin) (by decide +kernel)) (ae_add (ae_var 1) (ae_var 2)) (acg_name 7 (by decide) (fun _ _ _ _ _ => pg_name (i := 7) sc_law_twin.nd rfl (by first | exact Or.inl rfl | exact Or.inr rfl))) (ats_one fun _ _ _ _ _ => (at_eq (ae_ix (ae_var 7) ae_i) (ae_ix (ae_ix (ae_var 3) (ae_var 4)) ae_i))) (fun _ _ _ _ _ => (ae_var 7)) (sw_true rfl rfl rfl (by decide +kernel)))
  (ab_one (as_ret (ae_add (ae_add (ae_sl (ae_var 3) ao_none (ao_some (ae_var 4))) (ae_tup (aa_cons (ae_ix (ae_var 6) (ae_cal Glaw_pick (hr.mono (by decide)) (aa_cons (ae_var 0) (aa_cons (ae_len T.len (aa_cons (ae_var 6) aa_nil)) aa_nil)))) aa_nil))) (ae_sl (ae_var 3) (ao_some (ae_add (ae_var 4) ae_i)) ao_none)))))))))
/-! law_rows: level 4 -/
abbrev s_law_rows : Stmt := topS 40
abbrev N_law_rows : List Str := ["tape", "marks", "more", "tall", "rows", "many", "k", "way", "near"]
theorem sc_law_rows : L2.FnScope N_law_rows ["tape", "marks"] (defScope s_law_rows) := ⟨rfl, rfl, rfl, by decide +kernel, rfl, by decide +kernel, by decide +kernel⟩
def b_law_rows (sp_law_more sp_law_pick sp_law_tree sp_law_twin : ASp) (W : PX) : AbS :=
  (aCut (aSet 2 (aCall sp_law_more (aCons (aVar 0) aNil)))
  (aCut (aSet 3 (aCall sp_law_tree (aCons (aVar 0) (aCons (aVar 1) (aCons (aOp fAdd (aC (.int 1)) (aCall sp_law_pick (aCons (aVar 0) (aCons (aC (.int 10)) aNil)))) aNil)))))
  (aCut (aSet 4 (aLstB (aCons (aVar 3) aNil)))
  (aCut (aIf (aTest (aOp fGt (aCall sp_law_pick (aCons (aVar 0) (aCons (aC (.int 3)) aNil))) (aC (.int 0)))) (aCut (aDo (aML fApp (aVar 4) (aCons (aTup (aCons (aOp fIx (aVar 2) (aC (.int 3))) (aCons (aOp fIx (aVar 2) (aC (.int 4))) (aCons (aOp fIx (aVar 2) (aC (.int 2))) (aCons (aOp fIx (aVar 1) (aC (.int 0))) aNil))))) aNil)))
  (aDo (aML fApp (aVar 4) (aCons (aTup (aCons (aOp fIx (aVar 2) (aC (.int 3))) (aCons (aOp fIx (aVar 2) (aC (.int 1))) (aCons (aOp fIx (aVar 1) (aCall sp_law_pick (aCons (aVar 0) (aCons (aC (.int 2)) aNil)))) (aCons (aOp fIx (aVar 1) (aC (.int 1))) aNil))))) aNil)))) aNext)
  (aCut (aSet 5 (aOp fAdd (aC (.int 3)) (aCall sp_law_pick (aCons (aVar 0) (aCons (aC (.int 6)) aNil)))))
  (aCut (aIf (aTest (aOp fEq (aCall sp_law_pick (aCons (aVar 0) (aCons (aC (.int 10)) aNil))) (aC (.int 4)))) (aSet 5 (aOp fAdd (aC (.int 30)) (aCall sp_law_pick (aCons (aVar 0) (aCons (aC (.int 31)) aNil))))) aNext)
  (aCut (aForR false (aCons (aOp fSub (aVar 5) (aCa fLen (aCons (aVar 4) aNil))) aNil) 6 (aCut (aSet 7 (aCall sp_law_pick (aCons (aVar 0) (aCons (aC (.int 5)) aNil))))
  (aIf (aTest (aOp fEq (aVar 7) (aC (.int 0)))) (aDo (aML fApp (aVar 4) (aCons (aCall sp_law_tree (aCons (aVar 0) (aCons (aVar 1) (aCons (aOp fAdd (aC (.int 1)) (aCall sp_law_pick (aCons (aVar 0) (aCons (aC (.int 9)) aNil)))) aNil)))) aNil))) (aIf (aTest (aOp fEq (aVar 7) (aC (.int 1)))) (aDo (aML fApp (aVar 4) (aCons (aOp fIx (aVar 4) (aCall sp_law_pick (aCons (aVar 0) (aCons (aCa fLen (aCons (aVar 4) aNil)) aNil)))) aNil))) (aCut (aSet 8 (aCall sp_law_twin (aCons (aVar 0) (aCons (aVar 1) (aCons (aVar 2) (aCons (aOp fIx (aVar 4) (aCall sp_law_pick (aCons (aVar 0) (aCons (aCa fLen (aCons (aVar 4) aNil)) aNil)))) aNil))))))
  (aDo (aML fApp (aVar 4) (aCons (aIfE (aTest (aOp fLt (aCa fLen (aCons (aVar 8) aNil)) (aC (.int 31)))) (aVar 8) (aVar 3)) aNil))))))))
  (aRet (aVar 4)))))))))
theorem ab_law_rows {P : Program} {w : World} {K : PySem.W.Frag} {mg : Str → Option Value} {base : Heap} {sp_law_more sp_law_pick sp_law_tree sp_law_twin : ASp} (Glaw_more : Cal P w K mg base 2 "_law_more" ["tape"] sp_law_more) (Glaw_pick : Cal P w K mg base 1 "_law_pick" ["tape", "many"] sp_law_pick) (Glaw_tree : Cal P w K mg base 2 "_law_tree" ["tape", "marks", "most"] sp_law_tree) (Glaw_twin : Cal P w K mg base 3 "_law_twin" ["tape", "marks", "more", "tall"] sp_law_twin) (T : Bl mg)
  {f : Addr} (cdv : Value) (A : Around) (outer : List PySem.Env) (s : Shared) (H : Hp) (E : XK) (S0 : Hp) (W : PX) (hr : Room 3 (A.deeper (PyProof.Rows.envOfC "_law_rows" (defScope s_law_rows) s.heap.objs.size f cdv)))
  (tk : Takes (cxA P w K mg base N_law_rows "_law_rows" s_law_rows f cdv A outer s H E) (fun cls d _ H' => XW K S0 W cls d H')) :
  AB (cxA P w K mg base N_law_rows "_law_rows" s_law_rows f cdv A outer s H E) S0 (defBody s_law_rows) (b_law_rows sp_law_more sp_law_pick sp_law_tree sp_law_twin W) :=
  (ab_cut (as_set 2 (ae_cal Glaw_more (hr.mono (by decide)) (aa_cons (ae_var 0) aa_nil)) sc_law_rows.nd)
  (ab_cut (as_set 3 (ae_cal Glaw_tree (hr.mono (by decide)) (aa_cons (ae_var 0) (aa_cons (ae_var 1) (aa_cons (ae_add ae_i (ae_cal Glaw_pick (hr.mono (by decide)) (aa_cons (ae_var 0) (aa_cons ae_i aa_nil)))) aa_nil)))) sc_law_rows.nd)
  (ab_cut (as_set 4 (ae_lstB (aa_cons (ae_var 3) aa_nil)) sc_law_rows.nd)
  (ab_cut (as_if (at_gt (ae_cal Glaw_pick (hr.mono (by decide)) (aa_cons (ae_var 0) (aa_cons ae_i aa_nil))) ae_i) (ab_cut (as_expr (ae_app (ae_var 4) (aa_cons (ae_tup (aa_cons (ae_ix (ae_var 2) ae_i) (aa_cons (ae_ix (ae_var 2) ae_i) (aa_cons (ae_ix (ae_var 2) ae_i) (aa_cons (ae_ix (ae_var 1) ae_i) aa_nil))))) aa_nil)))
  (ab_one (as_expr (ae_app (ae_var 4) (aa_cons (ae_tup (aa_cons (ae_ix (ae_var 2) ae_i) (aa_cons (ae_ix (ae_var 2) ae_i) (aa_cons (ae_ix (ae_var 1) (ae_cal Glaw_pick (hr.mono (by decide)) (aa_cons (ae_var 0) (aa_cons ae_i aa_nil)))) (aa_cons (ae_ix (ae_var 1) ae_i) aa_nil))))) aa_nil))))) ab_nil)
  (ab_cut (as_set 5 (ae_add ae_i (ae_cal Glaw_pick (hr.mono (by decide)) (aa_cons (ae_var 0) (aa_cons ae_i aa_nil)))) sc_law_rows.nd)
  (ab_cut (as_if (at_eq (ae_cal Glaw_pick (hr.mono (by decide)) (aa_cons (ae_var 0) (aa_cons ae_i aa_nil))) ae_i) (ab_one (as_set 5 (ae_add ae_i (ae_cal Glaw_pick (hr.mono (by decide)) (aa_cons (ae_var 0) (aa_cons ae_i aa_nil)))) sc_law_rows.nd)) ab_nil)
  (ab_cut (as_forR1 6 (passes_of rfl) rfl T.range (aa_cons (ae_sub (ae_var 5) (ae_len T.len (aa_cons (ae_var 4) aa_nil))) aa_nil) sc_law_rows.nd (ab_cut (as_set 7 (ae_cal Glaw_pick (hr.mono (by decide)) (aa_cons (ae_var 0) (aa_cons ae_i aa_nil))) sc_law_rows.nd)
  (ab_one (as_if (at_eq (ae_var 7) ae_i) (ab_one (as_expr (ae_app (ae_var 4) (aa_cons (ae_cal Glaw_tree (hr.mono (by decide)) (aa_cons (ae_var 0) (aa_cons (ae_var 1) (aa_cons (ae_add ae_i (ae_cal Glaw_pick (hr.mono (by decide)) (aa_cons (ae_var 0) (aa_cons ae_i aa_nil)))) aa_nil)))) aa_nil)))) (ab_one (as_if (at_eq (ae_var 7) ae_i) (ab_one (as_expr (ae_app (ae_var 4) (aa_cons (ae_ix (ae_var 4) (ae_cal Glaw_pick (hr.mono (by decide)) (aa_cons (ae_var 0) (aa_cons (ae_len T.len (aa_cons (ae_var 4) aa_nil)) aa_nil)))) aa_nil)))) (ab_cut (as_set 8 (ae_cal Glaw_twin (hr.mono (by decide)) (aa_cons (ae_var 0) (aa_cons (ae_var 1) (aa_cons (ae_var 2) (aa_cons (ae_ix (ae_var 4) (ae_cal Glaw_pick (hr.mono (by decide)) (aa_cons (ae_var 0) (aa_cons (ae_len T.len (aa_cons (ae_var 4) aa_nil)) aa_nil)))) aa_nil))))) sc_law_rows.nd)
  (ab_one (as_expr (ae_app (ae_var 4) (aa_cons (ae_if (at_lt (ae_len T.len (aa_cons (ae_var 8) aa_nil)) ae_i) (ae_var 8) (ae_var 3)) aa_nil)))))))))))
  (ab_one (as_ret (ae_var 4))))))))))
/-! law_sorted: level 3 -/
abbrev s_law_sorted : Stmt := topS 41
abbrev N_law_sorted : List Str := ["rows", "once", "row", "placed", "mate"]
theorem sc_law_sorted : L2.FnScope N_law_sorted ["rows"] (defScope s_law_sorted) := ⟨rfl, rfl, rfl, by decide +kernel, rfl, by decide +kernel, by decide +kernel⟩
def b_law_sorted (sp_law_before : ASp) (W : PX) : AbS :=
  (aSeq (aSet 1 (aLstB aNil))
  (aSeq (aFor (aVar 0) (kName 2) (aIf (aTest (aOp (fInD true) (aVar 2) (aVar 1))) (aDo (aML fApp (aVar 1) (aCons (aVar 2) aNil))) aNext))
  (aSeq (aSet 3 (aLc false (aVar 1) [2] (kName 2) aYes (aC .non)))
  (aSeq (aFor (aVar 1) (kName 2) (aAsg (aVar 2) (kSub (aVar 3) (aCa fLen (aCons (aLc true (aVar 1) [4] (kName 4) (aTru (aCall sp_law_before (aCons (aVar 4) (aCons (aVar 2) aNil)))) (aVar 4)) aNil)))))
  (aRet (aCa fTuple (aCons (aVar 3) aNil)))))))
theorem ab_law_sorted {P : Program} {w : World} {K : PySem.W.Frag} {mg : Str → Option Value} {base : Heap} {sp_law_before : ASp} (Glaw_before : Cal P w K mg base 2 "_law_before" ["one", "two"] sp_law_before) (T : Bl mg)
  {f : Addr} (cdv : Value) (A : Around) (outer : List PySem.Env) (s : Shared) (H : Hp) (E : XK) (S0 : Hp) (W : PX) (hr : Room 2 (A.deeper (PyProof.Rows.envOfC "_law_sorted" (defScope s_law_sorted) s.heap.objs.size f cdv)))
  (tk : Takes (cxA P w K mg base N_law_sorted "_law_sorted" s_law_sorted f cdv A outer s H E) (fun cls d _ H' => XW K S0 W cls d H')) :
  AB (cxA P w K mg base N_law_sorted "_law_sorted" s_law_sorted f cdv A outer s H E) S0 (defBody s_law_sorted) (b_law_sorted sp_law_before W) :=
  (ab_cons (as_set 1 (ae_lstB aa_nil) sc_law_sorted.nd)
  (ab_cons (as_for (passes_of rfl) rfl (ae_var 0) (ag_name 2 sc_law_sorted.nd) (ab_one (as_if (at_niD hr (ae_var 2) (ae_var 1)) (ab_one (as_expr (ae_app (ae_var 1) (aa_cons (ae_var 2) aa_nil)))) ab_nil)))
  (ab_cons (as_setLc (own := [("row", 2)]) 3 false rfl sc_law_sorted.nd (blkOk_by (own := [("row", 2)]) (N := N_law_sorted) (sc := defScope s_law_sorted) (by decide +kernel)) (ae_var 1) (acg_name 2 (by decide) (fun _ _ _ _ _ => pg_name (i := 2) sc_law_sorted.nd rfl (by first | exact Or.inl rfl | exact Or.inr rfl))) ats_nil (fun _ _ _ _ _ => ae_n) (sw_true rfl rfl rfl (by decide +kernel)))
  (ab_cons (as_for (passes_of rfl) rfl (ae_var 1) (ag_name 2 sc_law_sorted.nd) (ab_one (as_asg (ae_var 2) (ag_sub (ae_var 3) (ae_len T.len (aa_cons (ae_lc (own := [("mate", 4)]) true rfl sc_law_sorted.nd (blkOk_by (own := [("mate", 4)]) (N := N_law_sorted) (sc := defScope s_law_sorted) (by decide +kernel)) (ae_var 1) (acg_name 4 (by decide) (fun _ _ _ _ _ => pg_name (i := 4) sc_law_sorted.nd rfl (by first | exact Or.inl rfl | exact Or.inr rfl))) (ats_one fun _ _ _ _ _ => (at_tru (ae_cal Glaw_before (hr.mono (by decide)) (aa_cons (ae_var 4) (aa_cons (ae_var 2) aa_nil))))) (fun _ _ _ _ _ => (ae_var 4))) aa_nil))))))
  (ab_one (as_ret (ae_tuple T.tuple (aa_cons (ae_var 3) aa_nil))))))))
/-! law_asks: level 7 -/
abbrev s_law_asks : Stmt := topS 42
abbrev N_law_asks : List Str := ["one", "two", "e"]
theorem sc_law_asks : L2.FnScope N_law_asks ["one", "two"] (defScope s_law_asks) := ⟨rfl, rfl, rfl, by decide +kernel, rfl, by decide +kernel, by decide +kernel⟩
def b_law_asks (K : PySem.W.Frag) (C_NotUsable C_UseError : Addr) (sp_is_ahead : ASp) (W : PX) : AbS :=
  (aTry K N_law_asks.length W [⟨C_NotUsable, 2, fun p fs => (aRet (aTup (aCons (aC (.str "raised")) (aCons (aCa (fIsX p C_UseError true) (aCons (aVar 2) (aCons (aC (.box C_UseError)) aNil))) (aCons (aXf p fs "word" (aVar 2)) (aCons (aXf p fs "at" (aVar 2)) aNil))))))⟩] (fun W => (aRet (aTup (aCons (aC (.str "told")) (aCons (aCallX W sp_is_ahead (aCons (aVar 0) (aCons (aVar 1) aNil))) aNil))))))
theorem ab_law_asks {P : Program} {w : World} {K : PySem.W.Frag} {mg : Str → Option Value} {base : Heap} {C_NotUsable C_UseError : Addr} {sp_is_ahead : ASp} (E_NotUsable : PySem.W.ErC K C_NotUsable) (G_UseError : Glo K mg "UseError" (.box C_UseError)) (Gis_ahead : Cal P w K mg base 6 "is_ahead" ["tree", "other"] sp_is_ahead) (H_NotUsable : HdC K mg "NotUsable" C_NotUsable) (N_NotUsable_at : PySem.W.findIn K (.ref C_NotUsable) "at" = some none) (N_NotUsable_word : PySem.W.findIn K (.ref C_NotUsable) "word" = some none) (S_NotUsable_UseError : PySem.W.kitOne K (.ref C_NotUsable) (.ref C_UseError) = some true) (T : Bl mg) (X_NotUsable : XfC K C_NotUsable)
  {f : Addr} (cdv : Value) (A : Around) (outer : List PySem.Env) (s : Shared) (H : Hp) (E : XK) (S0 : Hp) (W : PX) (hr : Room 6 (A.deeper (PyProof.Rows.envOfC "_law_asks" (defScope s_law_asks) s.heap.objs.size f cdv)))
  (tk : Takes (cxA P w K mg base N_law_asks "_law_asks" s_law_asks f cdv A outer s H E) (fun cls d _ H' => XW K S0 W cls d H')) :
  AB (cxA P w K mg base N_law_asks "_law_asks" s_law_asks f cdv A outer s H E) S0 (defBody s_law_asks) (b_law_asks K C_NotUsable C_UseError sp_is_ahead W) :=
  (ab_one (as_try rfl rfl sc_law_asks.nd tk (ClOk.cons ⟨rfl, by decide, .inl H_NotUsable.mg⟩ rfl rfl H_NotUsable.me (fun p dd ob l S0 fs I => (ab_one (as_ret (ae_tup (aa_cons ae_s (aa_cons (ae_isX I E_NotUsable S_NotUsable_UseError T.isi (aa_cons (ae_var 2) (aa_cons (ae_glo G_UseError) aa_nil))) (aa_cons (ae_xf I X_NotUsable N_NotUsable_word (ae_var 2)) (aa_cons (ae_xf I X_NotUsable N_NotUsable_at (ae_var 2)) aa_nil)))))))) ClOk.nil) (fun l xe S W tk po => (ab_one (as_ret (ae_tup (aa_cons ae_s (aa_cons (ae_calX tk Gis_ahead (hr.mono (by decide)) (aa_cons (ae_var 0) (aa_cons (ae_var 1) aa_nil))) aa_nil))))))))
/-! law_wholes: level 7 raises -/
abbrev s_law_wholes : Stmt := topS 43
abbrev N_law_wholes : List Str := ["tape", "marks", "rows", "whole", "start", "k", "one", "two", "far", "first", "second", "told"]
theorem sc_law_wholes : L2.FnScope N_law_wholes ["tape", "marks", "rows"] (defScope s_law_wholes) := ⟨rfl, rfl, rfl, by decide +kernel, rfl, by decide +kernel, by decide +kernel⟩
def b_law_wholes (sp_is_ahead sp_law_before sp_law_far sp_law_pick sp_law_same sp_law_tree sp_with_piece : ASp) (W : PX) : AbS :=
  (aCut (aSet 3 (aCall sp_law_tree (aCons (aVar 0) (aCons (aVar 1) (aCons (aOp fAdd (aC (.int 1)) (aCall sp_law_pick (aCons (aVar 0) (aCons (aC (.int 9)) aNil)))) aNil)))))
  (aCut (aSet 4 (aCall sp_law_pick (aCons (aVar 0) (aCons (aCa fLen (aCons (aVar 2) aNil)) aNil))))
  (aCut (aForR false (aCons (aCa fLen (aCons (aVar 3) aNil)) aNil) 5 (aCut (aSet 6 (aOp fIx (aVar 2) (aOp fMod (aOp fAdd (aVar 4) (aVar 5)) (aCa fLen (aCons (aVar 2) aNil)))))
  (aCut (aSet 7 (aOp fIx (aVar 2) (aOp fMod (aOp fAdd (aOp fAdd (aVar 4) (aOp fMul (aC (.int 2)) (aVar 5))) (aC (.int 1))) (aCa fLen (aCons (aVar 2) aNil)))))
  (aCut (aSet 8 (aCall sp_law_far (aCons (aVar 3) (aCons (aVar 5) aNil))))
  (aCut (aSet 9 (aOp fAdd (aOp fAdd (aSl (aVar 3) aNo (aPart (aVar 5))) (aVar 6)) (aSl (aVar 3) (aPart (aVar 8)) aNo)))
  (aCut (aSet 10 (aOp fAdd (aOp fAdd (aSl (aVar 3) aNo (aPart (aVar 5))) (aVar 7)) (aSl (aVar 3) (aPart (aVar 8)) aNo)))
  (aCut (aSet 11 (aTup (aCons (aCallX W sp_is_ahead (aCons (aCallX W sp_with_piece (aCons (aVar 3) (aCons (aVar 5) (aCons (aVar 6) aNil)))) (aCons (aCallX W sp_with_piece (aCons (aVar 3) (aCons (aVar 5) (aCons (aVar 7) aNil)))) aNil))) (aCons (aCallX W sp_is_ahead (aCons (aVar 10) (aCons (aVar 9) aNil))) aNil))))
  (aCut (aIf (aNot (aTru (aCall sp_law_same (aCons (aVar 11) (aCons (aTup (aCons (aCall sp_law_before (aCons (aVar 6) (aCons (aVar 7) aNil))) (aCons (aCall sp_law_before (aCons (aVar 7) (aCons (aVar 6) aNil))) aNil))) aNil))))) (aRet (aC (.bl false))) aNext)
  (aIf (aNot (aTru (aCall sp_law_same (aCons (aCallX W sp_is_ahead (aCons (aVar 9) (aCons (aVar 10) aNil))) (aCons (aCall sp_law_before (aCons (aVar 9) (aCons (aVar 10) aNil))) aNil))))) (aRet (aC (.bl false))) aNext)))))))))
  (aRet (aC (.bl true))))))
theorem ab_law_wholes {P : Program} {w : World} {K : PySem.W.Frag} {mg : Str → Option Value} {base : Heap} {sp_is_ahead sp_law_before sp_law_far sp_law_pick sp_law_same sp_law_tree sp_with_piece : ASp} (Gis_ahead : Cal P w K mg base 6 "is_ahead" ["tree", "other"] sp_is_ahead) (Glaw_before : Cal P w K mg base 2 "_law_before" ["one", "two"] sp_law_before) (Glaw_far : Cal P w K mg base 1 "_law_far" ["row", "at"] sp_law_far) (Glaw_pick : Cal P w K mg base 1 "_law_pick" ["tape", "many"] sp_law_pick) (Glaw_same : Cal P w K mg base 1 "_law_same" ["told", "due"] sp_law_same) (Glaw_tree : Cal P w K mg base 2 "_law_tree" ["tape", "marks", "most"] sp_law_tree) (Gwith_piece : Cal P w K mg base 6 "with_piece" ["tree", "node", "piece"] sp_with_piece) (T : Bl mg)
  {f : Addr} (cdv : Value) (A : Around) (outer : List PySem.Env) (s : Shared) (H : Hp) (E : XK) (S0 : Hp) (W : PX) (hr : Room 6 (A.deeper (PyProof.Rows.envOfC "_law_wholes" (defScope s_law_wholes) s.heap.objs.size f cdv)))
  (tk : Takes (cxA P w K mg base N_law_wholes "_law_wholes" s_law_wholes f cdv A outer s H E) (fun cls d _ H' => XW K S0 W cls d H')) :
  AB (cxA P w K mg base N_law_wholes "_law_wholes" s_law_wholes f cdv A outer s H E) S0 (defBody s_law_wholes) (b_law_wholes sp_is_ahead sp_law_before sp_law_far sp_law_pick sp_law_same sp_law_tree sp_with_piece W) :=
  (ab_cut (as_set 3 (ae_cal Glaw_tree (hr.mono (by decide)) (aa_cons (ae_var 0) (aa_cons (ae_var 1) (aa_cons (ae_add ae_i (ae_cal Glaw_pick (hr.mono (by decide)) (aa_cons (ae_var 0) (aa_cons ae_i aa_nil)))) aa_nil)))) sc_law_wholes.nd)
  (ab_cut (as_set 4 (ae_cal Glaw_pick (hr.mono (by decide)) (aa_cons (ae_var 0) (aa_cons (ae_len T.len (aa_cons (ae_var 2) aa_nil)) aa_nil))) sc_law_wholes.nd)
  (ab_cut (as_forR1 5 (passes_of rfl) rfl T.range (aa_cons (ae_len T.len (aa_cons (ae_var 3) aa_nil)) aa_nil) sc_law_wholes.nd (ab_cut (as_set 6 (ae_ix (ae_var 2) (ae_mod (ae_add (ae_var 4) (ae_var 5)) (ae_len T.len (aa_cons (ae_var 2) aa_nil)))) sc_law_wholes.nd)
  (ab_cut (as_set 7 (ae_ix (ae_var 2) (ae_mod (ae_add (ae_add (ae_var 4) (ae_mul ae_i (ae_var 5))) ae_i) (ae_len T.len (aa_cons (ae_var 2) aa_nil)))) sc_law_wholes.nd)
  (ab_cut (as_set 8 (ae_cal Glaw_far (hr.mono (by decide)) (aa_cons (ae_var 3) (aa_cons (ae_var 5) aa_nil))) sc_law_wholes.nd)
  (ab_cut (as_set 9 (ae_add (ae_add (ae_sl (ae_var 3) ao_none (ao_some (ae_var 5))) (ae_var 6)) (ae_sl (ae_var 3) (ao_some (ae_var 8)) ao_none)) sc_law_wholes.nd)
  (ab_cut (as_set 10 (ae_add (ae_add (ae_sl (ae_var 3) ao_none (ao_some (ae_var 5))) (ae_var 7)) (ae_sl (ae_var 3) (ao_some (ae_var 8)) ao_none)) sc_law_wholes.nd)
  (ab_cut (as_set 11 (ae_tup (aa_cons (ae_calX tk Gis_ahead (hr.mono (by decide)) (aa_cons (ae_calX tk Gwith_piece (hr.mono (by decide)) (aa_cons (ae_var 3) (aa_cons (ae_var 5) (aa_cons (ae_var 6) aa_nil)))) (aa_cons (ae_calX tk Gwith_piece (hr.mono (by decide)) (aa_cons (ae_var 3) (aa_cons (ae_var 5) (aa_cons (ae_var 7) aa_nil)))) aa_nil))) (aa_cons (ae_calX tk Gis_ahead (hr.mono (by decide)) (aa_cons (ae_var 10) (aa_cons (ae_var 9) aa_nil))) aa_nil))) sc_law_wholes.nd)
  (ab_cut (as_if (at_not (at_tru (ae_cal Glaw_same (hr.mono (by decide)) (aa_cons (ae_var 11) (aa_cons (ae_tup (aa_cons (ae_cal Glaw_before (hr.mono (by decide)) (aa_cons (ae_var 6) (aa_cons (ae_var 7) aa_nil))) (aa_cons (ae_cal Glaw_before (hr.mono (by decide)) (aa_cons (ae_var 7) (aa_cons (ae_var 6) aa_nil))) aa_nil))) aa_nil))))) (ab_one (as_ret ae_b)) ab_nil)
  (ab_one (as_if (at_not (at_tru (ae_cal Glaw_same (hr.mono (by decide)) (aa_cons (ae_calX tk Gis_ahead (hr.mono (by decide)) (aa_cons (ae_var 9) (aa_cons (ae_var 10) aa_nil))) (aa_cons (ae_cal Glaw_before (hr.mono (by decide)) (aa_cons (ae_var 9) (aa_cons (ae_var 10) aa_nil))) aa_nil))))) (ab_one (as_ret ae_b)) ab_nil))))))))))
  (ab_one (as_ret ae_b)))))
/-! law_refusals: level 8 -/
abbrev s_law_refusals : Stmt := topS 44
abbrev N_law_refusals : List Str := ["tape", "tall", "odd", "k", "bad"]
theorem sc_law_refusals : L2.FnScope N_law_refusals ["tape", "tall"] (defScope s_law_refusals) := ⟨rfl, rfl, rfl, by decide +kernel, rfl, by decide +kernel, by decide +kernel⟩
def b_law_refusals (sp_law_asks sp_law_pick sp_law_same : ASp) (W : PX) : AbS :=
  (aCut (aSet 2 (aLst (aCons (aC .non) (aCons (aTup aNil) (aCons (aCa fList (aCons (aVar 1) aNil)) (aCons (aOp fAdd (aVar 1) (aVar 1)) (aCons (aSl (aVar 1) aNo (aPart (aUn fNeg (aC (.int 1))))) (aCons (aTup (aCons (aTup (aCons (aC (.str "?")) (aCons (aC (.int 0)) aNil))) aNil)) (aCons (aTup (aCons (aC (.str "a")) (aCons (aC (.int 0)) aNil))) (aCons (aC (.int 0)) (aCons (aC (.str "a")) (aCons (aTup (aCons (aTup (aCons (aC (.str "a")) (aCons (aC (.bl false)) aNil))) aNil)) (aCons (aTup (aCons (aVar 1) aNil)) (aCons (aC (.bl true)) aNil))))))))))))))
  (aCut (aSet 2 (aOp fAdd (aVar 2) (aLst (aCons (aOp fAdd (aVar 1) (aTup (aCons (aC .non) aNil))) (aCons (aTup (aCons (aTup (aCons (aC (.str "a")) (aCons (aC (.int 5)) aNil))) aNil)) (aCons (aTup (aCons (aTup (aCons (aC (.str ".")) (aCons (aC (.int 1)) aNil))) (aCons (aTup (aCons (aC (.str "a")) (aCons (aC (.int 0)) aNil))) aNil))) (aCons (aTup (aCons (aTup (aCons (aC (.str "A")) (aCons (aC (.int 0)) aNil))) aNil)) (aCons (aTup (aCons (aTup (aCons (aC (.str "_")) (aCons (aC (.int 0)) aNil))) aNil)) aNil))))))))
  (aCut (aForR false (aCons (aC (.int 3)) aNil) 3 (aCut (aSet 4 (aOp fIx (aVar 2) (aCall sp_law_pick (aCons (aVar 0) (aCons (aCa fLen (aCons (aVar 2) aNil)) aNil)))))
  (aIf (aNot (aTru (aCall sp_law_same (aCons (aCall sp_law_asks (aCons (aVar 1) (aCons (aVar 4) aNil))) (aCons (aTup (aCons (aC (.str "raised")) (aCons (aC (.bl true)) (aCons (aC (.str "other")) (aCons (aUn fNeg (aC (.int 1))) aNil))))) aNil))))) (aRet (aC (.bl false))) aNext)))
  (aRet (aC (.bl true))))))
theorem ab_law_refusals {P : Program} {w : World} {K : PySem.W.Frag} {mg : Str → Option Value} {base : Heap} {sp_law_asks sp_law_pick sp_law_same : ASp} (Glaw_asks : Cal P w K mg base 7 "_law_asks" ["one", "two"] sp_law_asks) (Glaw_pick : Cal P w K mg base 1 "_law_pick" ["tape", "many"] sp_law_pick) (Glaw_same : Cal P w K mg base 1 "_law_same" ["told", "due"] sp_law_same) (T : Bl mg)
  {f : Addr} (cdv : Value) (A : Around) (outer : List PySem.Env) (s : Shared) (H : Hp) (E : XK) (S0 : Hp) (W : PX) (hr : Room 7 (A.deeper (PyProof.Rows.envOfC "_law_refusals" (defScope s_law_refusals) s.heap.objs.size f cdv)))
  (tk : Takes (cxA P w K mg base N_law_refusals "_law_refusals" s_law_refusals f cdv A outer s H E) (fun cls d _ H' => XW K S0 W cls d H')) :
  AB (cxA P w K mg base N_law_refusals "_law_refusals" s_law_refusals f cdv A outer s H E) S0 (defBody s_law_refusals) (b_law_refusals sp_law_asks sp_law_pick sp_law_same W) :=
  (ab_cut (as_set 2 (ae_lst (aa_cons ae_n (aa_cons (ae_tup aa_nil) (aa_cons (ae_list T.list (aa_cons (ae_var 1) aa_nil)) (aa_cons (ae_add (ae_var 1) (ae_var 1)) (aa_cons (ae_sl (ae_var 1) ao_none (ao_some (ae_neg ae_i))) (aa_cons (ae_tup (aa_cons (ae_tup (aa_cons ae_s (aa_cons ae_i aa_nil))) aa_nil)) (aa_cons (ae_tup (aa_cons ae_s (aa_cons ae_i aa_nil))) (aa_cons ae_i (aa_cons ae_s (aa_cons (ae_tup (aa_cons (ae_tup (aa_cons ae_s (aa_cons ae_b aa_nil))) aa_nil)) (aa_cons (ae_tup (aa_cons (ae_var 1) aa_nil)) (aa_cons ae_b aa_nil))))))))))))) sc_law_refusals.nd)
  (ab_cut (as_set 2 (ae_add (ae_var 2) (ae_lst (aa_cons (ae_add (ae_var 1) (ae_tup (aa_cons ae_n aa_nil))) (aa_cons (ae_tup (aa_cons (ae_tup (aa_cons ae_s (aa_cons ae_i aa_nil))) aa_nil)) (aa_cons (ae_tup (aa_cons (ae_tup (aa_cons ae_s (aa_cons ae_i aa_nil))) (aa_cons (ae_tup (aa_cons ae_s (aa_cons ae_i aa_nil))) aa_nil))) (aa_cons (ae_tup (aa_cons (ae_tup (aa_cons ae_s (aa_cons ae_i aa_nil))) aa_nil)) (aa_cons (ae_tup (aa_cons (ae_tup (aa_cons ae_s (aa_cons ae_i aa_nil))) aa_nil)) aa_nil))))))) sc_law_refusals.nd)
  (ab_cut (as_forR1 3 (passes_of rfl) rfl T.range (aa_cons ae_i aa_nil) sc_law_refusals.nd (ab_cut (as_set 4 (ae_ix (ae_var 2) (ae_cal Glaw_pick (hr.mono (by decide)) (aa_cons (ae_var 0) (aa_cons (ae_len T.len (aa_cons (ae_var 2) aa_nil)) aa_nil)))) sc_law_refusals.nd)
  (ab_one (as_if (at_not (at_tru (ae_cal Glaw_same (hr.mono (by decide)) (aa_cons (ae_cal Glaw_asks (hr.mono (by decide)) (aa_cons (ae_var 1) (aa_cons (ae_var 4) aa_nil))) (aa_cons (ae_tup (aa_cons ae_s (aa_cons ae_b (aa_cons ae_s (aa_cons (ae_neg ae_i) aa_nil))))) aa_nil))))) (ab_one (as_ret ae_b)) ab_nil))))
  (ab_one (as_ret ae_b)))))
/-! law: level 9 raises -/
abbrev s_law : Stmt := topS 45
abbrev N_law : List Str := ["script", "tape", "marks", "rows", "chain", "one", "k", "turn", "turned", "told", "two"]
theorem sc_law : L2.FnScope N_law ["script"] (defScope s_law) := ⟨rfl, rfl, rfl, by decide +kernel, rfl, by decide +kernel, by decide +kernel⟩
def b_law (sp_in_order sp_is_ahead sp_law_before sp_law_marks sp_law_pick sp_law_refusals sp_law_rows sp_law_same sp_law_sorted sp_law_tape sp_law_wholes sp_least_of : ASp) (W : PX) : AbS :=
  (aCut (aSet 1 (aCall sp_law_tape (aCons (aVar 0) aNil)))
  (aCut (aSet 2 (aCall sp_law_marks (aCons (aVar 1) aNil)))
  (aCut (aSet 3 (aCall sp_law_rows (aCons (aVar 1) (aCons (aVar 2) aNil))))
  (aCut (aSet 4 (aCall sp_law_sorted (aCons (aVar 3) aNil)))
  (aCut (aFor (aSl (aVar 3) aNo (aPart (aC (.int 8)))) (kName 5) (aFor (aSl (aVar 3) aNo (aPart (aC (.int 8)))) (kName 10) (aIf (aNot (aTru (aCall sp_law_same (aCons (aCallX W sp_is_ahead (aCons (aVar 5) (aCons (aVar 10) aNil))) (aCons (aCall sp_law_before (aCons (aVar 5) (aCons (aVar 10) aNil))) aNil))))) (aRet (aC (.bl false))) aNext)))
  (aCut (aForR false (aCons (aOp fSub (aCa fLen (aCons (aVar 4) aNil)) (aC (.int 1))) aNil) 6 (aCut (aSet 9 (aTup (aCons (aCallX W sp_is_ahead (aCons (aOp fIx (aVar 4) (aVar 6)) (aCons (aOp fIx (aVar 4) (aOp fAdd (aVar 6) (aC (.int 1)))) aNil))) (aCons (aCallX W sp_is_ahead (aCons (aOp fIx (aVar 4) (aOp fAdd (aVar 6) (aC (.int 1)))) (aCons (aOp fIx (aVar 4) (aVar 6)) aNil))) (aCons (aCall sp_is_ahead (aSwap (aCons (aOp fIx (aVar 4) (aC (.int 0))) (aCons (aOp fIx (aVar 4) (aVar 6)) aNil)))) aNil)))))
  (aIf (aNot (aTru (aCall sp_law_same (aCons (aVar 9) (aCons (aTup (aCons (aC (.bl true)) (aCons (aC (.bl false)) (aCons (aC (.bl false)) aNil)))) aNil))))) (aRet (aC (.bl false))) aNext)))
  (aCut (aIf (aOr (aNot (aTru (aCallX W sp_law_wholes (aCons (aVar 1) (aCons (aVar 2) (aCons (aSl (aVar 3) aNo (aPart (aC (.int 8)))) aNil)))))) (aNot (aTru (aCall sp_law_refusals (aCons (aVar 1) (aCons (aOp fIx (aVar 3) (aC (.int 0))) aNil)))))) (aRet (aC (.bl false))) aNext)
  (aCut (aSet 7 (aCall sp_law_pick (aCons (aVar 1) (aCons (aCa fLen (aCons (aVar 3) aNil)) aNil))))
  (aCut (aSet 8 (aCa fTuple (aCons (aOp fAdd (aSl (aVar 3) (aPart (aVar 7)) aNo) (aSl (aVar 3) aNo (aPart (aVar 7)))) aNil)))
  (aCut (aSet 9 (aTup (aCons (aCall sp_in_order (aCons (aCa fTuple (aCons (aVar 3) aNil)) aNil)) (aCons (aCall sp_in_order (aCons (aRevT (aVar 8)) aNil)) (aCons (aCall sp_in_order (aCons (aOp fAdd (aRevT (aVar 4)) (aVar 4)) aNil)) (aCons (aCall sp_in_order (aCons (aTup (aCons (aOp fIx (aVar 3) (aC (.int 0))) (aCons (aOp fIx (aVar 3) (aC (.int 0))) aNil))) aNil)) aNil))))))
  (aCut (aIf (aNot (aTru (aCall sp_law_same (aCons (aVar 9) (aCons (aTup (aCons (aVar 4) (aCons (aVar 4) (aCons (aVar 4) (aCons (aTup (aCons (aOp fIx (aVar 3) (aC (.int 0))) aNil)) aNil))))) aNil))))) (aRet (aC (.bl false))) aNext)
  (aCut (aSet 9 (aTup (aCons (aCall sp_least_of (aCons (aVar 8) aNil)) (aCons (aCall sp_least_of (aCons (aRevT (aVar 4)) aNil)) (aCons (aCall sp_least_of (aCons (aTup (aCons (aOp fIx (aVar 3) (aUn fNeg (aC (.int 1)))) aNil)) aNil)) (aCons (aCall sp_least_of (aCons (aTup aNil) aNil)) (aCons (aCall sp_in_order (aCons (aTup aNil) aNil)) (aCons (aCall sp_least_of (aCons (aSl (aVar 4) (aPart (aC (.int 1))) aNo) aNil)) aNil))))))))
  (aRet (aCall sp_law_same (aCons (aVar 9) (aCons (aTup (aCons (aOp fIx (aVar 4) (aC (.int 0))) (aCons (aOp fIx (aVar 4) (aC (.int 0))) (aCons (aOp fIx (aVar 3) (aUn fNeg (aC (.int 1)))) (aCons (aC .non) (aCons (aTup aNil) (aCons (aOp fIx (aOp fAdd (aVar 4) (aTup (aCons (aC .non) aNil))) (aC (.int 1))) aNil))))))) aNil))))))))))))))))
theorem ab_law {P : Program} {w : World} {K : PySem.W.Frag} {mg : Str → Option Value} {base : Heap} {sp_in_order sp_is_ahead sp_law_before sp_law_marks sp_law_pick sp_law_refusals sp_law_rows sp_law_same sp_law_sorted sp_law_tape sp_law_wholes sp_least_of : ASp} (Gin_order : Cal P w K mg base 4 "in_order" ["trees"] sp_in_order) (Gis_ahead : Cal P w K mg base 6 "is_ahead" ["tree", "other"] sp_is_ahead) (Glaw_before : Cal P w K mg base 2 "_law_before" ["one", "two"] sp_law_before) (Glaw_marks : Cal P w K mg base 2 "_law_marks" ["tape"] sp_law_marks) (Glaw_pick : Cal P w K mg base 1 "_law_pick" ["tape", "many"] sp_law_pick) (Glaw_refusals : Cal P w K mg base 8 "_law_refusals" ["tape", "tall"] sp_law_refusals) (Glaw_rows : Cal P w K mg base 4 "_law_rows" ["tape", "marks"] sp_law_rows) (Glaw_same : Cal P w K mg base 1 "_law_same" ["told", "due"] sp_law_same) (Glaw_sorted : Cal P w K mg base 3 "_law_sorted" ["rows"] sp_law_sorted) (Glaw_tape : Cal P w K mg base 1 "_law_tape" ["script"] sp_law_tape) (Glaw_wholes : Cal P w K mg base 7 "_law_wholes" ["tape", "marks", "rows"] sp_law_wholes) (Gleast_of : Cal P w K mg base 4 "least_of" ["trees"] sp_least_of) (Sis_ahead : CalS P w K mg base 6 "is_ahead" ["tree", "other"] sp_is_ahead) (T : Bl mg)
  {f : Addr} (cdv : Value) (A : Around) (outer : List PySem.Env) (s : Shared) (H : Hp) (E : XK) (S0 : Hp) (W : PX) (hr : Room 8 (A.deeper (PyProof.Rows.envOfC "law" (defScope s_law) s.heap.objs.size f cdv)))
  (tk : Takes (cxA P w K mg base N_law "law" s_law f cdv A outer s H E) (fun cls d _ H' => XW K S0 W cls d H')) :
  AB (cxA P w K mg base N_law "law" s_law f cdv A outer s H E) S0 (defBody s_law) (b_law sp_in_order sp_is_ahead sp_law_before sp_law_marks sp_law_pick sp_law_refusals sp_law_rows sp_law_same sp_law_sorted sp_law_tape sp_law_wholes sp_least_of W) :=
  (ab_cut (as_set 1 (ae_cal Glaw_tape (hr.mono (by decide)) (aa_cons (ae_var 0) aa_nil)) sc_law.nd)
  (ab_cut (as_set 2 (ae_cal Glaw_marks (hr.mono (by decide)) (aa_cons (ae_var 1) aa_nil)) sc_law.nd)
  (ab_cut (as_set 3 (ae_cal Glaw_rows (hr.mono (by decide)) (aa_cons (ae_var 1) (aa_cons (ae_var 2) aa_nil))) sc_law.nd)
  (ab_cut (as_set 4 (ae_cal Glaw_sorted (hr.mono (by decide)) (aa_cons (ae_var 3) aa_nil)) sc_law.nd)
  (ab_cut (as_for (passes_of rfl) rfl (ae_sl (ae_var 3) ao_none (ao_some ae_i)) (ag_name 5 sc_law.nd) (ab_one (as_for (passes_of rfl) rfl (ae_sl (ae_var 3) ao_none (ao_some ae_i)) (ag_name 10 sc_law.nd) (ab_one (as_if (at_not (at_tru (ae_cal Glaw_same (hr.mono (by decide)) (aa_cons (ae_calX tk Gis_ahead (hr.mono (by decide)) (aa_cons (ae_var 5) (aa_cons (ae_var 10) aa_nil))) (aa_cons (ae_cal Glaw_before (hr.mono (by decide)) (aa_cons (ae_var 5) (aa_cons (ae_var 10) aa_nil))) aa_nil))))) (ab_one (as_ret ae_b)) ab_nil)))))
  (ab_cut (as_forR1 6 (passes_of rfl) rfl T.range (aa_cons (ae_sub (ae_len T.len (aa_cons (ae_var 4) aa_nil)) ae_i) aa_nil) sc_law.nd (ab_cut (as_set 9 (ae_tup (aa_cons (ae_calX tk Gis_ahead (hr.mono (by decide)) (aa_cons (ae_ix (ae_var 4) (ae_var 6)) (aa_cons (ae_ix (ae_var 4) (ae_add (ae_var 6) ae_i)) aa_nil))) (aa_cons (ae_calX tk Gis_ahead (hr.mono (by decide)) (aa_cons (ae_ix (ae_var 4) (ae_add (ae_var 6) ae_i)) (aa_cons (ae_ix (ae_var 4) (ae_var 6)) aa_nil))) (aa_cons (ae_calKS Sis_ahead (hr.mono (by decide)) (ak_cons (ae_ix (ae_var 4) ae_i) (ak_cons (ae_ix (ae_var 4) (ae_var 6)) ak_nil))) aa_nil)))) sc_law.nd)
  (ab_one (as_if (at_not (at_tru (ae_cal Glaw_same (hr.mono (by decide)) (aa_cons (ae_var 9) (aa_cons (ae_tup (aa_cons ae_b (aa_cons ae_b (aa_cons ae_b aa_nil)))) aa_nil))))) (ab_one (as_ret ae_b)) ab_nil))))
  (ab_cut (as_if (aw_at (aw_or (at_not (at_tru (ae_calX tk Glaw_wholes (hr.mono (by decide)) (aa_cons (ae_var 1) (aa_cons (ae_var 2) (aa_cons (ae_sl (ae_var 3) ao_none (ao_some ae_i)) aa_nil)))))) (at_or1 (at_not (at_tru (ae_cal Glaw_refusals (hr.mono (by decide)) (aa_cons (ae_var 1) (aa_cons (ae_ix (ae_var 3) ae_i) aa_nil)))))))) (ab_one (as_ret ae_b)) ab_nil)
  (ab_cut (as_set 7 (ae_cal Glaw_pick (hr.mono (by decide)) (aa_cons (ae_var 1) (aa_cons (ae_len T.len (aa_cons (ae_var 3) aa_nil)) aa_nil))) sc_law.nd)
  (ab_cut (as_set 8 (ae_tuple T.tuple (aa_cons (ae_add (ae_sl (ae_var 3) (ao_some (ae_var 7)) ao_none) (ae_sl (ae_var 3) ao_none (ao_some (ae_var 7)))) aa_nil)) sc_law.nd)
  (ab_cut (as_set 9 (ae_tup (aa_cons (ae_cal Gin_order (hr.mono (by decide)) (aa_cons (ae_tuple T.tuple (aa_cons (ae_var 3) aa_nil)) aa_nil)) (aa_cons (ae_cal Gin_order (hr.mono (by decide)) (aa_cons (ae_revT (ae_var 8)) aa_nil)) (aa_cons (ae_cal Gin_order (hr.mono (by decide)) (aa_cons (ae_add (ae_revT (ae_var 4)) (ae_var 4)) aa_nil)) (aa_cons (ae_cal Gin_order (hr.mono (by decide)) (aa_cons (ae_tup (aa_cons (ae_ix (ae_var 3) ae_i) (aa_cons (ae_ix (ae_var 3) ae_i) aa_nil))) aa_nil)) aa_nil))))) sc_law.nd)
  (ab_cut (as_if (at_not (at_tru (ae_cal Glaw_same (hr.mono (by decide)) (aa_cons (ae_var 9) (aa_cons (ae_tup (aa_cons (ae_var 4) (aa_cons (ae_var 4) (aa_cons (ae_var 4) (aa_cons (ae_tup (aa_cons (ae_ix (ae_var 3) ae_i) aa_nil)) aa_nil))))) aa_nil))))) (ab_one (as_ret ae_b)) ab_nil)
  (ab_cut (as_set 9 (ae_tup (aa_cons (ae_cal Gleast_of (hr.mono (by decide)) (aa_cons (ae_var 8) aa_nil)) (aa_cons (ae_cal Gleast_of (hr.mono (by decide)) (aa_cons (ae_revT (ae_var 4)) aa_nil)) (aa_cons (ae_cal Gleast_of (hr.mono (by decide)) (aa_cons (ae_tup (aa_cons (ae_ix (ae_var 3) (ae_neg ae_i)) aa_nil)) aa_nil)) (aa_cons (ae_cal Gleast_of (hr.mono (by decide)) (aa_cons (ae_tup aa_nil) aa_nil)) (aa_cons (ae_cal Gin_order (hr.mono (by decide)) (aa_cons (ae_tup aa_nil) aa_nil)) (aa_cons (ae_cal Gleast_of (hr.mono (by decide)) (aa_cons (ae_sl (ae_var 4) (ao_some ae_i) ao_none) aa_nil)) aa_nil))))))) sc_law.nd)
  (ab_one (as_ret (ae_cal Glaw_same (hr.mono (by decide)) (aa_cons (ae_var 9) (aa_cons (ae_tup (aa_cons (ae_ix (ae_var 4) ae_i) (aa_cons (ae_ix (ae_var 4) ae_i) (aa_cons (ae_ix (ae_var 3) (ae_neg ae_i)) (aa_cons ae_n (aa_cons (ae_tup aa_nil) (aa_cons (ae_ix (ae_add (ae_var 4) (ae_tup (aa_cons ae_n aa_nil))) ae_i) aa_nil))))))) aa_nil)))))))))))))))))
end AL
set_option maxHeartbeats 2000000
namespace AL
open PySem L2 Evl
/-! ### symbols, rows of symbols -/
structure Sy where
  w : List Nat
  n : Nat
def tx (l : List Nat) : Str := ⟨l.toArray⟩
theorem tx_len (l : List Nat) : (tx l).length = l.length := by
  show l.toArray.size = l.length
  simp
theorem tx_app (l r : List Nat) : tx l ++ tx r = tx (l ++ r) := by
  show (⟨l.toArray ++ r.toArray⟩ : Str) = ⟨(l ++ r).toArray⟩
  simp
theorem tx_inj {l r : List Nat} : tx l = tx r ↔ l = r := by
  constructor
  · intro h
    have := congrArg (fun s : Str => s.cps.toList) h
    simpa [tx] using this
  · intro h
    rw [h]
theorem tx_cps (l : List Nat) : (tx l).cps.toList = l := by simp [tx]
def syD (s : Sy) : D := .tup [.str (tx s.w), .int (s.n : Int)]
def rowD (r : List Sy) : D := .tup (r.map syD)
theorem row_get {r : List Sy} {i : Nat} {s : Sy} (h : r[i]? = some s) : (r.map syD)[i]? = some (syD s) := by
  rw [List.getElem?_map, h]
  rfl
theorem atI_nn {α : Type} {xs : List α} {i : Nat} {v : α} (h : xs[i]? = some v) : atI xs (i : Int) = some v := by
  unfold atI ixN
  have hl : i < xs.length := (List.getElem?_eq_some_iff.mp h).1
  rw [if_pos (by omega), if_pos (by omega)]
  exact h
theorem atI_i {α : Type} {xs : List α} {k : Int} {i : Nat} {v : α} (e : k = i) (h : xs[i]? = some v) : atI xs k = some v := by
  rw [e]
  exact atI_nn h
theorem ixN_last {n : Nat} (h : 0 < n) : ixN n (-1) = some (n - 1) := by
  unfold ixN
  rw [if_neg (by omega), if_pos (by omega)]
  congr 1
  omega
theorem atI_last {α : Type} {xs : List α} {v : α} : atI (xs ++ [v]) (-1) = some v := by
  unfold atI
  rw [ixN_last (by simp)]
  simp
theorem int_eq {i j : Int} (h : i = j) : D.int i = D.int j := by rw [h]
/-- how many symbols the n pieces have with which r begins -/
def far : List Sy → Nat → Nat
  | [], _ => 0
  | _, 0 => 0
  | s :: r, n + 1 => far r (n + s.n) + 1
theorem far_nil (n : Nat) : far [] n = 0 := by cases n <;> rfl
theorem far_zero (r : List Sy) : far r 0 = 0 := by cases r <;> rfl
/-- r begins with n whole pieces -/
def okRow : List Sy → Nat → Bool
  | _, 0 => true
  | [], _ + 1 => false
  | s :: r, n + 1 => okRow r (n + s.n)
theorem okRow_zero (r : List Sy) : okRow r 0 = true := by cases r <;> rfl
theorem far_le : ∀ (r : List Sy) (n : Nat), far r n ≤ r.length
  | [], n => by rw [far_nil]; exact Nat.zero_le _
  | s :: r, 0 => Nat.zero_le _
  | s :: r, n + 1 => by
    show far r (n + s.n) + 1 ≤ r.length + 1
    exact Nat.succ_le_succ (far_le r _)
/-- what is wanted behind r, where n pieces were ahead -/
def run : List Sy → Nat → Option Nat
  | [], n => some n
  | _ :: _, 0 => none
  | s :: r, n + 1 => run r (n + s.n)
def whole (r : List Sy) : Prop := run r 1 = some 0
theorem run_app : ∀ (a b : List Sy) (n : Nat), run (a ++ b) n = (run a n).bind (run b)
  | [], b, n => rfl
  | s :: a, b, 0 => rfl
  | s :: a, b, n + 1 => run_app a b (n + s.n)
theorem run_more : ∀ (a : List Sy) (n k j : Nat), run a n = some k → run a (n + j) = some (k + j)
  | [], n, k, j, h => by
    cases h
    rfl
  | s :: a, 0, k, j, h => by cases h
  | s :: a, n + 1, k, j, h => by
    have := run_more a (n + s.n) k j h
    rw [Nat.add_right_comm] at this
    rw [show n + 1 + j = (n + j) + 1 by omega]
    exact this
theorem run_okRow : ∀ (r : List Sy) (n : Nat), run r n = some 0 → okRow r n = true ∧ far r n = r.length
  | [], n, h => by
    cases h
    exact ⟨rfl, rfl⟩
  | s :: r, 0, h => by cases h
  | s :: r, n + 1, h => by
    obtain ⟨h1, h2⟩ := run_okRow r (n + s.n) h
    exact ⟨h1, by show far r (n + s.n) + 1 = r.length + 1; rw [h2]⟩
/-- where n pieces begin a row, they end at far -/
theorem okRow_run : ∀ (r : List Sy) (n : Nat), okRow r n = true → run (r.take (far r n)) n = some 0
  | r, 0, h => by
    rw [far_zero]
    rfl
  | [], n + 1, h => by cases h
  | s :: r, n + 1, h => okRow_run r (n + s.n) h
theorem run_ok_drop : ∀ (r : List Sy) (n j : Nat), run r n = some 0 → run (r.take j) n = some j' → okRow (r.drop j) j' = true := by
  intro r n j h h'
  have h2 := run_app (r.take j) (r.drop j) n
  rw [List.take_append_drop, h, h'] at h2
  exact (run_okRow _ _ h2.symm).1
theorem run_take : ∀ (r : List Sy) (n j : Nat), run r n = some 0 → j < r.length → ∃ k, run (r.take j) n = some (k + 1)
  | [], n, j, h, hj => by simp at hj
  | s :: r, 0, j, h, hj => by cases h
  | s :: r, n + 1, 0, h, hj => ⟨n, rfl⟩
  | s :: r, n + 1, j + 1, h, hj => run_take r (n + s.n) j h (by simpa using hj)
/-- at each node a piece begins -/
theorem whole_piece {r : List Sy} (h : whole r) {j : Nat} (hj : j < r.length) : okRow (r.drop j) 1 = true := by
  obtain ⟨k, hk⟩ := run_take r 1 j h hj
  have := run_ok_drop r 1 j h hk
  have mono : ∀ (l : List Sy) (n i : Nat), okRow l (n + i) = true → okRow l i = true := by
    intro l
    induction l with
    | nil =>
      intro n i h
      cases i with
      | zero => rfl
      | succ i => cases h
    | cons s l ih =>
      intro n i h
      cases i with
      | zero => rfl
      | succ i => exact ih n (i + s.n) (by rw [← Nat.add_assoc]; exact h)
  exact mono _ k 1 this
/-- another piece put there -/
theorem whole_put {r p : List Sy} (h : whole r) (hp : whole p) {j : Nat} (hj : j < r.length) : whole (r.take j ++ p ++ r.drop (j + far (r.drop j) 1)) := by
  obtain ⟨k, hk⟩ := run_take r 1 j h hj
  have hpc := whole_piece h hj
  have e1 : r = r.take j ++ ((r.drop j).take (far (r.drop j) 1) ++ r.drop (j + far (r.drop j) 1)) := by
    rw [← List.drop_drop, List.take_append_drop, List.take_append_drop]
  have h1 : run r 1 = some 0 := h
  rw [e1, run_app, hk] at h1
  have h2 : run ((r.drop j).take (far (r.drop j) 1) ++ r.drop (j + far (r.drop j) 1)) (k + 1) = some 0 := h1
  rw [run_app, Nat.add_comm k 1, run_more _ 1 0 k (okRow_run _ _ hpc)] at h2
  have h3 : run (r.drop (j + far (r.drop j) 1)) (0 + k) = some 0 := h2
  show run _ 1 = some 0
  rw [run_app, run_app, hk]
  show (run p (k + 1)).bind _ = some 0
  rw [Nat.add_comm k 1, run_more _ 1 0 k hp]
  exact h3
theorem fIx_row {r : List Sy} {i : Nat} {s : Sy} {m : Mu} {P : PD} (h : r[i]? = some s) : fIx (rowD r) (.int (i : Int)) m P = P (syD s) m := fIx_t (atI_nn (row_get h))
theorem fIx_sy0 {s : Sy} {m : Mu} {P : PD} : fIx (syD s) (.int 0) m P = P (.str (tx s.w)) m := fIx_t0
theorem fIx_sy1 {s : Sy} {m : Mu} {P : PD} : fIx (syD s) (.int 1) m P = P (.int (s.n : Int)) m := fIx_t1
theorem at_drop {α : Type} {r t : List α} {i : Nat} {s : α} (h : r.drop i = s :: t) : r[i]? = some s ∧ r.drop (i + 1) = t ∧ i < r.length := by
  have h1 : r[i]? = some s := by
    have := congrArg (·[0]?) h
    simpa using this
  refine ⟨h1, ?_, (List.getElem?_eq_some_iff.mp h1).1⟩
  rw [← List.drop_drop, h] <;> rfl
/-! ### data without lists or boxes -/
mutual
def pure? : D → Bool
  | .tup ds => pures? ds
  | .lst _ => false
  | .scr _ => false
  | .box _ => false
  | .ty _ => false
  | _ => true
def pures? : List D → Bool
  | [] => true
  | d :: ds => pure? d && pures? ds
end
mutual
def dsize : D → Nat
  | .tup ds => dsizes ds + 1
  | _ => 1
def dsizes : List D → Nat
  | [] => 0
  | d :: ds => dsize d + dsizes ds
end
theorem dsizes_app : ∀ (a b : List D), dsizes (a ++ b) = dsizes a + dsizes b
  | [], b => by simp [dsizes]
  | d :: a, b => by
    show dsize d + dsizes (a ++ b) = dsize d + dsizes a + dsizes b
    rw [dsizes_app a b, Nat.add_assoc]
theorem pures_app : ∀ (a b : List D), pures? (a ++ b) = (pures? a && pures? b)
  | [], b => by simp [pures?]
  | d :: a, b => by
    show (pure? d && pures? (a ++ b)) = _
    rw [pures_app a b, ← Bool.and_assoc]
    rfl
theorem len_dsizes : ∀ (a : List D), a.length ≤ dsizes a
  | [] => Nat.le_refl _
  | d :: a => by
    have h1 : 1 ≤ dsize d := by cases d <;> simp [dsize]
    have := len_dsizes a
    show a.length + 1 ≤ dsize d + dsizes a
    omega
theorem pures_get : ∀ {a : List D} {i : Nat} {d : D}, pures? a = true → a[i]? = some d → pure? d = true
  | d :: a, 0, e, h, g => by
    rw [List.getElem?_cons_zero] at g
    cases g
    exact (Bool.and_eq_true_iff.mp h).1
  | d :: a, i + 1, e, h, g => by
    rw [List.getElem?_cons_succ] at g
    exact pures_get (Bool.and_eq_true_iff.mp h).2 g
theorem row_pure (r : List Sy) : pure? (rowD r) = true := by
  show pures? (r.map syD) = true
  induction r with
  | nil => rfl
  | cons s r ih =>
    show (pure? (syD s) && pures? (r.map syD)) = true
    rw [ih] <;> rfl
theorem row_size (r : List Sy) : dsize (rowD r) = 3 * r.length + 1 := by
  show dsizes (r.map syD) + 1 = _
  induction r with
  | nil => rfl
  | cons s r ih =>
    show dsize (syD s) + dsizes (r.map syD) + 1 = _
    have : dsize (syD s) = 3 := rfl
    rw [List.length_cons]
    omega
/-! ### comprehensions whose turns change nothing -/
def PvF (m : Mu) (p : Addr) (f : Nat → Option D) (i : Nat) (acc : List D) (m' : Mu) : Prop := acc = (List.range i).filterMap f ∧ m' = mset m p (.lst acc)
theorem pvF_start {m : Mu} {p : Addr} {f : Nat → Option D} : PvF m p f 0 [] (mset m p (.lst [])) := ⟨rfl, rfl⟩
theorem pvF_yes {m : Mu} {p : Addr} {f : Nat → Option D} {i : Nat} {acc : List D} {y : D} (h : acc = (List.range i).filterMap f) (hf : f i = some y) :
    (mset m p (.lst acc)) p = some (.lst acc) ∧ PvF m p f (i + 1) (acc ++ [y]) (mset (mset m p (.lst acc)) p (.lst (acc ++ [y]))) := by
  refine ⟨mset_same, ?_, mset_mset⟩
  rw [List.range_succ, List.filterMap_append, ← h]
  simp [hf]
theorem pvF_no {m : Mu} {p : Addr} {f : Nat → Option D} {i : Nat} {acc : List D} (h : acc = (List.range i).filterMap f) (hf : f i = none) : PvF m p f (i + 1) acc (mset m p (.lst acc)) := by
  refine ⟨?_, rfl⟩
  rw [List.range_succ, List.filterMap_append, ← h]
  simp [hf]
theorem lc_pure {n : Nat} {item : Nat → D} {okm : Mu → Prop} {g : Sl} {vs : List Nat} {k : AbG} {ft : AbT} {fe : Ab} {p : Addr} {m : Mu} {R : List D → Mu → Prop} (f : Nat → Option D) (hn : n < 100000) (hok : ∀ acc, okm (mset m p (.lst acc)))
    (turn : ∀ i acc, i < n → acc = (List.range i).filterMap f → k (item i) (wipeD g vs) (mset m p (.lst acc)) fun g2 m2 => ft g2 m2 fun b m3 =>
      if b = true then fe g2 m3 fun y m4 => m4 p = some (.lst acc) ∧ PvF m p f (i + 1) (acc ++ [y]) (mset m4 p (.lst (acc ++ [y]))) else PvF m p f (i + 1) acc m3)
    (fin : R ((List.range n).filterMap f) (mset m p (.lst ((List.range n).filterMap f)))) :
    ∃ Pv : Nat → List D → Mu → Prop, Pv 0 [] (mset m p (.lst [])) ∧ lcTurns n item okm g vs k ft fe p Pv ∧ ∀ acc m', Pv n acc m' → R acc m' := by
  refine ⟨PvF m p f, pvF_start, ⟨fun i acc m' hi h => ?_, fun i acc m' hi h => ?_⟩, fun acc m' h => ?_⟩
  · obtain ⟨h1, rfl⟩ := h
    refine ⟨hok acc, mset_same, ?_⟩
    rw [h1]
    have := List.length_filterMap_le f (List.range i)
    rw [List.length_range] at this
    omega
  · obtain ⟨h1, rfl⟩ := h
    exact turn i acc hi h1
  · obtain ⟨rfl, rfl⟩ := h
    exact fin
theorem fm_map {α : Type} {f : Nat → Option D} {l : List α} {g : α → D} (h : ∀ i a, l[i]? = some a → f i = some (g a)) : (List.range l.length).filterMap f = l.map g := by
  have : ∀ k, k ≤ l.length → (List.range k).filterMap f = (l.take k).map g := by
    intro k
    induction k with
    | zero =>
      intro _
      rfl
    | succ k ih =>
      intro hk
      have hlt : k < l.length := hk
      rw [List.range_succ, List.filterMap_append, ih (by omega), List.take_succ, List.map_append, List.getElem?_eq_getElem hlt]
      simp [h k l[k] (List.getElem?_eq_getElem hlt)]
  have h2 := this l.length (Nat.le_refl _)
  rw [List.take_length] at h2
  exact h2
/-! ### the tape of draws -/
def tapeD (c s : Addr) : D := .lst [.box c, .box s]
structure TapeIn (m : Mu) (c s : Addr) : Prop where
  ne : c ≠ s
  ex : ∃ (cells : List Int) (st : Int), m c = some (.lst (cells.map .int)) ∧ m s = some (.lst [.int st]) ∧ (∀ x ∈ cells, 0 ≤ x) ∧ 0 ≤ st ∧ st < 2147483647 ∧ cells.length ≤ 63
/-- the tape has moved on, nothing else -/
structure Tp (c s : Addr) (m m' : Mu) : Prop where
  tp : TapeIn m' c s
  eq : ∀ a, a ≠ c → a ≠ s → m' a = m a
theorem Tp.refl {c s : Addr} {m : Mu} (h : TapeIn m c s) : Tp c s m m := ⟨h, fun _ _ _ => rfl⟩
theorem Tp.trans {c s : Addr} {m m1 m2 : Mu} (a : Tp c s m m1) (b : Tp c s m1 m2) : Tp c s m m2 := ⟨b.tp, fun x h1 h2 => (b.eq x h1 h2).trans (a.eq x h1 h2)⟩
theorem Tp.at {c s p : Addr} {m m' : Mu} {o : MO} (h : Tp c s m m') (hp : m p = some o) (h1 : p ≠ c) (h2 : p ≠ s) : m' p = some o := (h.eq p h1 h2).trans hp
theorem TapeIn.apart {m : Mu} {c s p : Addr} (h : TapeIn m c s) (hp : m p = none) : p ≠ c ∧ p ≠ s := by
  obtain ⟨_, cells, st, h1, h2, _⟩ := h
  constructor
  · rintro rfl
    rw [hp] at h1
    cases h1
  · rintro rfl
    rw [hp] at h2
    cases h2
theorem TapeIn.set {m : Mu} {c s p : Addr} {o : MO} (h : TapeIn m c s) (h1 : p ≠ c) (h2 : p ≠ s) : TapeIn (mset m p o) c s := by
  obtain ⟨ne, cells, st, a1, a2, a3⟩ := h
  exact ⟨ne, cells, st, (mset_ne (Ne.symm h1)).trans a1, (mset_ne (Ne.symm h2)).trans a2, a3⟩
theorem TapeIn.del {m : Mu} {c s p : Addr} (h : TapeIn m c s) (h1 : p ≠ c) (h2 : p ≠ s) : TapeIn (mdel m p) c s := by
  obtain ⟨ne, cells, st, a1, a2, a3⟩ := h
  exact ⟨ne, cells, st, (mdel_ne (Ne.symm h1)).trans a1, (mdel_ne (Ne.symm h2)).trans a2, a3⟩
/-- only the tape and what stands at L may differ -/
structure Fr (c s : Addr) (L : List Addr) (m0 m : Mu) : Prop where
  tp : TapeIn m c s
  ap : ∀ p ∈ L, p ≠ c ∧ p ≠ s
  eq : ∀ a, a ≠ c → a ≠ s → a ∉ L → m a = m0 a
section
variable {c s p : Addr} {L : List Addr} {m0 m m' : Mu} {o : MO}
theorem Fr.of (h : Tp c s m0 m) : Fr c s [] m0 m := ⟨h.tp, fun _ z => (by cases z), fun a h1 h2 _ => h.eq a h1 h2⟩
theorem Fr.end_ (h : Fr c s [] m0 m) : Tp c s m0 m := ⟨h.tp, fun a h1 h2 => h.eq a h1 h2 (by simp)⟩
theorem Fr.go (h : Fr c s L m0 m) (t : Tp c s m m') : Fr c s L m0 m' := ⟨t.tp, h.ap, fun a h1 h2 h3 => (t.eq a h1 h2).trans (h.eq a h1 h2 h3)⟩
theorem Fr.add (h : Fr c s L m0 m) (hp : m p = none) : Fr c s (p :: L) m0 (mset m p o) := by
  obtain ⟨h1, h2⟩ := h.tp.apart hp
  refine ⟨h.tp.set h1 h2, fun q hq => ?_, fun a ha hb hl => ?_⟩
  · rcases List.mem_cons.mp hq with rfl | hq
    · exact ⟨h1, h2⟩
    · exact h.ap q hq
  · rw [mset_ne (fun z => hl (by rw [z]; exact List.mem_cons_self))]
    exact h.eq a ha hb fun z => hl (List.mem_cons_of_mem _ z)
theorem Fr.set (h : Fr c s L m0 m) (hp : p ∈ L) : Fr c s L m0 (mset m p o) := by
  obtain ⟨h1, h2⟩ := h.ap p hp
  refine ⟨h.tp.set h1 h2, h.ap, fun a ha hb hl => ?_⟩
  rw [mset_ne (fun z => hl (by rw [z]; exact hp))]
  exact h.eq a ha hb hl
theorem Fr.del (h : Fr c s (p :: L) m0 m) (hp : m0 p = none) : Fr c s L m0 (mdel m p) := by
  obtain ⟨h1, h2⟩ := h.ap p List.mem_cons_self
  refine ⟨h.tp.del h1 h2, fun q hq => h.ap q (List.mem_cons_of_mem _ hq), fun a ha hb hl => ?_⟩
  by_cases z : a = p
  · rw [z, mdel_same, hp]
  · rw [mdel_ne z]
    exact h.eq a ha hb fun y => (List.mem_cons.mp y).elim z hl
theorem Fr.new (h : Fr c s L m0 m) (hp : m p = none) (hl : p ∉ L) : m0 p = none := by
  obtain ⟨h1, h2⟩ := h.tp.apart hp
  rw [← h.eq p h1 h2 hl]
  exact hp
theorem Tp.own {q : Addr} (t : Tp c s m m') (h : m q = some o) (hq : q ≠ c ∧ q ≠ s) : m' q = some o := (t.eq q hq.1 hq.2).trans h
end
end AL
set_option maxHeartbeats 2000000
namespace AL
open PySem L2 Evl
/-! ### the order of rows of symbols -/
def syPy (s : Sy) : PyData := .tuple [.str (tx s.w), .int (s.n : Int)]
def syK (s : Sy) : NestedKey := .tup [.text (tx s.w), .num (s.n : Int)]
theorem keyD_sy (s : Sy) : keyD (syD s) = some (syK s) := rfl
theorem keyDs_row : ∀ r : List Sy, keyDs (r.map syD) = some (r.map syK)
  | [] => rfl
  | s :: r => by
    show (match keyD (syD s) with
      | some k => (match keyDs (r.map syD) with
        | some ks => some (k :: ks)
        | none => none)
      | none => none) = _
    rw [keyD_sy, keyDs_row r]
    rfl
theorem keyD_row (r : List Sy) : keyD (rowD r) = some (.tup (r.map syK)) := by
  show (match keyDs (r.map syD) with
    | some ks => some (NestedKey.tup ks)
    | none => none) = _
  rw [keyDs_row]
theorem datas_row : ∀ r : List Sy, NestedKey.datas (r.map syK) = r.map syPy
  | [] => rfl
  | s :: r => by
    show (syK s).data :: NestedKey.datas (r.map syK) = _
    rw [datas_row r]
    rfl
def rowKey (r : List Sy) : PyData := .tuple [.int (r.length : Nat), .tuple (r.map syPy)]
theorem dKey_row (r : List Sy) : dKey (rowD r) = rowKey r := by
  unfold dKey lenKey
  rw [trK_of (keyD_row r), datas_row, List.length_map]
  rfl
theorem alike_sy (s t : Sy) : PySem.W.alike (syPy s) (syPy t) = true := by simp [syPy, PySem.W.alike, PySem.W.alikeAll]
theorem alike_rows : ∀ a b : List Sy, PySem.W.alikeAll (a.map syPy) (b.map syPy) = true
  | [], b => by simp [PySem.W.alikeAll]
  | s :: a, [] => by simp [PySem.W.alikeAll]
  | s :: a, t :: b => by
    rw [List.map_cons, List.map_cons, PySem.W.alikeAll, alike_sy, alike_rows a b]
    rfl
theorem alike_key (a b : List Sy) : PySem.W.alike (rowKey a) (rowKey b) = true := by
  unfold rowKey
  simp [PySem.W.alike, PySem.W.alikeAll, alike_rows]
theorem depth_rows : ∀ r : List Sy, PyData.depthAll (r.map syPy) ≤ 4
  | [] => by simp [PyData.depthAll]
  | s :: r => by
    have := depth_rows r
    rw [List.map_cons]
    simp only [PyData.depthAll, syPy, PyData.depth] at *
    omega
theorem depth_key (r : List Sy) : (rowKey r).depth ≤ 60 := by
  have := depth_rows r
  unfold rowKey
  simp only [PyData.depth, PyData.depthAll]
  omega
def ahead (a b : List Sy) : Bool := PySem.W.dataLt (rowKey a) (rowKey b)
theorem ahead_irr (a : List Sy) : ahead a a = false := PyProof.Rows.lex_irrefl (O := PyProof.Rows.itemOrd) _
theorem ahead_trans {a b c : List Sy} (h : ahead a b = true) (g : ahead b c = true) : ahead a c = true := PyProof.Rows.lex_trans (O := PyProof.Rows.itemOrd) _ _ _ h g
theorem ahead_asym {a b : List Sy} (h : ahead a b = true) : ahead b a = false := by
  cases g : ahead b a with
  | false => rfl
  | true => exact absurd (ahead_trans h g) (by rw [ahead_irr]; decide)
theorem toks_rows : ∀ a b : List Sy, PySem.W.keyToksAll (a.map syPy) = PySem.W.keyToksAll (b.map syPy) → a = b
  | [], [], _ => rfl
  | [], t :: b, h => by simp [PySem.W.keyToksAll] at h
  | s :: a, [], h => by simp [PySem.W.keyToksAll] at h
  | s :: a, t :: b, h => by
    simp only [List.map_cons, PySem.W.keyToksAll, syPy, PySem.W.keyToks, List.cons_append, List.nil_append, List.cons.injEq, Sum.inr.injEq, Sum.inl.injEq, true_and, tx_cps] at h
    obtain ⟨h1, h2, h3⟩ := h
    have e := toks_rows a b h3
    have e2 : s.n = t.n := by omega
    obtain ⟨w, n⟩ := s
    obtain ⟨w', n'⟩ := t
    cases h1
    cases e2
    rw [e]
theorem ahead_tot {a b : List Sy} (h : ahead a b = false) (g : ahead b a = false) : a = b := by
  have e := PyProof.Rows.lex_total (O := PyProof.Rows.itemOrd) _ _ h g
  unfold rowKey at e
  simp only [PySem.W.keyToks, PySem.W.keyToksAll, List.cons_append, List.nil_append, List.cons.injEq, Sum.inl.injEq, true_and] at e
  have e2 := e.2
  have := List.append_cancel_right e2
  exact toks_rows a b this
/-! ### as the numbers of the signs tell -/
def bf : List Int → List Int → Bool
  | x :: xs, y :: ys => if x = y then bf xs ys else decide (x < y)
  | _, _ => false
def sg (c : Nat) : Int := c
def sgs (s : Sy) : List Int := s.w.map sg ++ [-1, (s.n : Int)]
def numsOf (r : List Sy) : List Int := (r.length : Int) :: r.flatMap sgs
def syLt (s t : Sy) : Bool := if s.w = t.w then decide (s.n < t.n) else decide (s.w < t.w)
theorem eqv_sy (s t : Sy) : PyData.eqv (syPy s) (syPy t) = true ↔ s = t := by
  obtain ⟨w, n⟩ := s
  obtain ⟨w', n'⟩ := t
  simp [syPy, PyData.eqv, PyData.eqvAll, tx_inj]
  intro _
  omega
theorem dataLt_sy {s t : Sy} (h : s ≠ t) : PySem.W.dataLt (syPy s) (syPy t) = syLt s t := by
  obtain ⟨w, n⟩ := s
  obtain ⟨w', n'⟩ := t
  unfold syPy syLt
  rw [PySem.W.dataLt_tuple]
  by_cases e : w = w'
  · subst e
    rw [PySem.W.dataLt_all_yes (by simp [PySem.W.alike]) (by simp [PyData.eqv])]
    rw [PySem.W.dataLt_all_no (by simp [PySem.W.alike]) (by simp [PyData.eqv]; intro z; exact h (by rw [show n = n' by omega])), PySem.W.dataLt_int]
    simp
  · rw [PySem.W.dataLt_all_no (by simp [PySem.W.alike]) (by simp [PyData.eqv, tx_inj, e]), PySem.W.dataLt_str]
    simp [tx_cps, e]
theorem bf_sg : ∀ (w w' : List Nat) (n n' : Nat) (X Y : List Int), bf (w.map sg ++ -1 :: (n : Int) :: X) (w'.map sg ++ -1 :: (n' : Int) :: Y) =
    if w = w' then (if n = n' then bf X Y else decide (n < n')) else decide (w < w')
  | [], [], n, n', X, Y => by
    have e : ((n : Int) = (n' : Int)) = (n = n') := propext ⟨fun z => by omega, fun z => by omega⟩
    simp [bf]
    simp only [e]
  | [], c :: w', n, n', X, Y => by
    have e1 : ¬ (-1 : Int) = sg c := by unfold sg; omega
    have e2 : (-1 : Int) < sg c := by unfold sg; omega
    simp [bf, e1, e2]
  | c :: w, [], n, n', X, Y => by
    have e1 : ¬ sg c = -1 := by unfold sg; omega
    have e2 : ¬ sg c < -1 := by unfold sg; omega
    simp [bf, e1, e2]
  | c :: w, d :: w', n, n', X, Y => by
    have ih := bf_sg w w' n n' X Y
    by_cases e : c = d
    · subst e
      simp only [List.map_cons, List.cons_append, bf, if_pos, ih, List.cons.injEq, true_and]
      by_cases e2 : w = w'
      · rw [if_pos e2, if_pos e2]
      · rw [if_neg e2, if_neg e2]
        simp
    · have e1 : ¬ sg c = sg d := by unfold sg; omega
      have e2 : sg c < sg d ↔ c < d := by unfold sg; omega
      simp only [List.map_cons, List.cons_append, bf, if_neg e1, List.cons.injEq, e, false_and, if_false]
      rw [decide_eq_decide, e2]
      simp [List.cons_lt_cons_iff, e]
theorem lt_rows : ∀ a b : List Sy, a.length = b.length → PyProof.Rows.lexLt PyProof.Rows.itemOrd (PySem.W.keyToksAll (a.map syPy)) (PySem.W.keyToksAll (b.map syPy)) = bf (a.flatMap sgs) (b.flatMap sgs)
  | [], [], _ => by
    rw [PyProof.Rows.lex_irrefl]
    rfl
  | s :: a, t :: b, h => by
    have ih := lt_rows a b (by simpa using h)
    rw [List.map_cons, List.map_cons, List.flatMap_cons, List.flatMap_cons]
    have e3 : sgs s ++ a.flatMap sgs = s.w.map sg ++ -1 :: (s.n : Int) :: a.flatMap sgs := by simp [sgs]
    have e4 : sgs t ++ b.flatMap sgs = t.w.map sg ++ -1 :: (t.n : Int) :: b.flatMap sgs := by simp [sgs]
    rw [e3, e4, bf_sg]
    by_cases e : s = t
    · subst e
      rw [PySem.W.dataLt_all_yes (alike_sy _ _) ((eqv_sy _ _).mpr rfl), ih, if_pos rfl, if_pos rfl]
    · have ne : PyData.eqv (syPy s) (syPy t) = false := by
        cases z : PyData.eqv (syPy s) (syPy t) with
        | false => rfl
        | true => exact absurd ((eqv_sy s t).mp z) e
      rw [PySem.W.dataLt_all_no (alike_sy _ _) ne, dataLt_sy e]
      unfold syLt
      by_cases e1 : s.w = t.w
      · rw [if_pos e1, if_pos e1, if_neg]
        intro e2
        obtain ⟨w, n⟩ := s
        obtain ⟨w', n'⟩ := t
        cases e1
        cases e2
        exact e rfl
      · rw [if_neg e1, if_neg e1]
theorem ahead_nums (a b : List Sy) : ahead a b = bf (numsOf a) (numsOf b) := by
  unfold ahead rowKey numsOf
  rw [PySem.W.dataLt_tuple]
  by_cases e : a.length = b.length
  · rw [PySem.W.dataLt_all_yes (by simp [PySem.W.alike]) (by simp [PyData.eqv, e])]
    rw [bf, if_pos (by omega), ← lt_rows a b e]
    cases z : PyData.eqv (.tuple (a.map syPy)) (.tuple (b.map syPy)) with
    | false =>
      rw [PySem.W.dataLt_all_no (by simp [PySem.W.alike, alike_rows]) z, PySem.W.dataLt_tuple]
    | true =>
      rw [PySem.W.dataLt_all_yes (by simp [PySem.W.alike, alike_rows]) z, PyProof.Rows.lex_irrefl]
      have t := (PySem.W.toks_eqv (.tuple (a.map syPy)) (.tuple (b.map syPy)) (by simp [PySem.W.alike, alike_rows])).1 z
      simp only [PySem.W.keyToks] at t
      rw [t, PyProof.Rows.lex_irrefl]
  · have e1 : ¬ (a.length : Int) = (b.length : Int) := by omega
    rw [PySem.W.dataLt_all_no (by simp [PySem.W.alike]) (by simp [PyData.eqv]; omega), PySem.W.dataLt_int, bf, if_neg e1]
end AL
set_option maxHeartbeats 2000000
namespace AL
open PySem L2 Evl
instance : DecidableEq Sy := fun a b => if h : a.w = b.w ∧ a.n = b.n then .isTrue (by cases a; cases b; cases h.1; cases h.2; rfl) else .isFalse fun e => h (by rw [e]; exact ⟨rfl, rfl⟩)
abbrev Rw := List Sy
abbrev AscR (l : List Rw) : Prop := l.Pairwise fun a b => ahead a b = true
/-- ch: the different ones of rows, in order -/
structure IsChain (rows ch : List Rw) : Prop where
  asc : AscR ch
  mem : ∀ x, x ∈ ch ↔ x ∈ rows
theorem asc_uniq : ∀ {a b : List Rw}, AscR a → AscR b → (∀ x, x ∈ a ↔ x ∈ b) → a = b
  | [], [], _, _, _ => rfl
  | [], y :: b, _, _, h => absurd ((h y).mpr List.mem_cons_self) (by simp)
  | x :: a, [], _, _, h => absurd ((h x).mp List.mem_cons_self) (by simp)
  | x :: a, y :: b, ha, hb, h => by
    obtain ⟨a1, a2⟩ := List.pairwise_cons.mp ha
    obtain ⟨b1, b2⟩ := List.pairwise_cons.mp hb
    have e : x = y := by
      rcases List.mem_cons.mp ((h x).mp List.mem_cons_self) with e | m
      · exact e
      · rcases List.mem_cons.mp ((h y).mpr List.mem_cons_self) with e | m2
        · exact e.symm
        · have z1 := b1 x m
          have z2 := a1 y m2
          rw [ahead_asym z1] at z2
          cases z2
    subst e
    have n1 : x ∉ a := fun m => by
      have := a1 x m
      rw [ahead_irr] at this
      cases this
    have n2 : x ∉ b := fun m => by
      have := b1 x m
      rw [ahead_irr] at this
      cases this
    rw [asc_uniq a2 b2 fun z => ?_]
    have hz := h z
    rw [List.mem_cons, List.mem_cons] at hz
    constructor
    · intro m
      rcases hz.mp (.inr m) with e | m2
      · rw [e] at m
        exact absurd m n1
      · exact m2
    · intro m
      rcases hz.mpr (.inr m) with e | m2
      · rw [e] at m
        exact absurd m n2
      · exact m2
theorem chain_uniq {rows a b : List Rw} (h : IsChain rows a) (g : IsChain rows b) : a = b := asc_uniq h.asc g.asc fun x => (h.mem x).trans (g.mem x).symm
/-- the different ones, as they come -/
def dstep (acc : List Rw) (r : Rw) : List Rw := if r ∈ acc then acc else acc ++ [r]
def dd (rows : List Rw) : List Rw := rows.foldl dstep []
theorem dd_snoc (l : List Rw) (r : Rw) : dd (l ++ [r]) = dstep (dd l) r := by
  unfold dd
  rw [List.foldl_append]
  rfl
theorem dd_gen : ∀ (l acc : List Rw), acc.Nodup → (l.foldl dstep acc).Nodup ∧ (∀ x, x ∈ l.foldl dstep acc ↔ x ∈ acc ∨ x ∈ l) ∧ (l.foldl dstep acc).length ≤ acc.length + l.length
  | [], acc, h => ⟨h, fun x => by simp, by simp⟩
  | r :: l, acc, h => by
    have hn : (dstep acc r).Nodup := by
      unfold dstep
      split
      · exact h
      · rename_i hm
        refine List.nodup_append.mpr ⟨h, by simp, fun a ha b hb => ?_⟩
        rw [List.mem_singleton.mp hb]
        rintro rfl
        exact hm ha
    have hm : ∀ x, x ∈ dstep acc r ↔ x ∈ acc ∨ x = r := fun x => by
      unfold dstep
      split
      · rename_i hr
        constructor
        · exact .inl
        · rintro (h | rfl)
          · exact h
          · exact hr
      · simp
    have hl : (dstep acc r).length ≤ acc.length + 1 := by
      unfold dstep
      split
      · omega
      · simp
    obtain ⟨g1, g2, g3⟩ := dd_gen l (dstep acc r) hn
    refine ⟨g1, fun x => ?_, ?_⟩
    · show x ∈ l.foldl dstep (dstep acc r) ↔ _
      rw [g2 x, hm x, List.mem_cons, or_assoc]
    · show (l.foldl dstep (dstep acc r)).length ≤ _
      rw [List.length_cons]
      omega
theorem dd_nodup (l : List Rw) : (dd l).Nodup := (dd_gen l [] List.nodup_nil).1
theorem dd_mem {l : List Rw} {x : Rw} : x ∈ dd l ↔ x ∈ l := by
  have := (dd_gen l [] List.nodup_nil).2.1 x
  unfold dd
  simpa using this
theorem dd_len (l : List Rw) : (dd l).length ≤ l.length := by
  have := (dd_gen l [] List.nodup_nil).2.2
  unfold dd
  simpa using this
/-- sorted -/
def leR (a b : Rw) : Bool := !ahead b a
theorem leR_total : PySem.W.TotalLe leR where
  trans a b c h1 h2 := by
    unfold leR at *
    cases h : ahead c a with
    | false => rfl
    | true =>
      rw [Bool.not_eq_true'] at h1 h2
      by_cases e : ahead a b = true
      · have := ahead_trans h e
        rw [h2] at this
        cases this
      · have e1 : a = b := ahead_tot (by simpa using e) h1
        rw [← e1, h] at h2
        cases h2
  total a b := by
    unfold leR
    cases h : ahead b a with
    | false => exact .inl rfl
    | true =>
      rw [ahead_asym h]
      exact .inr rfl
def srt (l : List Rw) : List Rw := l.mergeSort leR
theorem srt_perm (l : List Rw) : (srt l).Perm l := List.mergeSort_perm _ _
theorem srt_asc {l : List Rw} (h : l.Nodup) : AscR (srt l) := by
  have hp := PySem.W.sort_pairwise leR_total l
  have hn : (srt l).Nodup := (srt_perm l).nodup_iff.mpr h
  refine List.Pairwise.imp₂ (fun a b h1 h2 => ?_) hp hn
  unfold leR at h1
  cases z : ahead a b with
  | true => rfl
  | false => exact absurd (ahead_tot z (by simpa using h1)) h2
theorem srt_chain (rows : List Rw) : IsChain rows (srt (dd rows)) := ⟨srt_asc (dd_nodup rows), fun x => by rw [(srt_perm _).mem_iff]; exact dd_mem⟩
theorem sortD_rows (l : List Rw) : sortD (l.map rowD) = (srt l).map rowD := by
  unfold sortD srt
  refine (PySem.W.sort_maps (r := leR) rowD fun a _ b _ => ?_).symm
  unfold leR ahead
  rw [← dKey_row, ← dKey_row]
  rfl
/-- how many are ahead of it -/
theorem rank_at : ∀ {l : List Rw} {i : Nat} {x : Rw}, AscR l → l[i]? = some x → (l.filter fun y => ahead y x).length = i
  | y :: l, 0, x, h, e => by
    cases e
    obtain ⟨h1, h2⟩ := List.pairwise_cons.mp h
    rw [List.filter_cons, ahead_irr, if_neg (by decide)]
    rw [List.filter_eq_nil_iff.mpr fun z hz => by rw [ahead_asym (h1 z hz)]; decide]
    rfl
  | y :: l, i + 1, x, h, e => by
    obtain ⟨h1, h2⟩ := List.pairwise_cons.mp h
    have e : l[i]? = some x := e
    rw [List.filter_cons, h1 x (List.mem_of_getElem? e), if_pos rfl, List.length_cons, rank_at h2 e]
/-- the least -/
def leastOf (rows : List Rw) (x : Rw) : Prop := x ∈ rows ∧ ∀ y ∈ rows, ahead y x = false
theorem least_uniq {rows : List Rw} {x y : Rw} (h : leastOf rows x) (g : leastOf rows y) : x = y := ahead_tot (g.2 x h.1) (h.2 y g.1)
theorem best_least {rows : List Rw} (bt : Nat → Nat → Bool) (hb : ∀ i j (hi : i < rows.length) (hj : j < rows.length), bt i j = ahead rows[i] rows[j]) : ∀ k, k < rows.length → ∃ (h : PySem.argBest bt k < rows.length), PySem.argBest bt k ≤ k ∧ ∀ j (hj : j < rows.length), j ≤ k → ahead rows[j] rows[PySem.argBest bt k] = false
  | 0, h => ⟨h, Nat.le_refl _, fun j hj h0 => by
    have : j = 0 := by omega
    subst this
    exact ahead_irr _⟩
  | k + 1, h => by
    obtain ⟨h1, h2, h3⟩ := best_least bt hb k (by omega)
    by_cases e : bt (k + 1) (PySem.argBest bt k) = true
    · have e1 : PySem.argBest bt (k + 1) = k + 1 := if_pos e
      rw [hb _ _ h h1] at e
      refine ⟨by rw [e1]; exact h, by rw [e1]; exact Nat.le_refl _, fun j hj hk => ?_⟩
      simp only [e1]
      by_cases z : j = k + 1
      · subst z
        exact ahead_irr _
      · cases q : ahead rows[j] rows[k + 1] with
        | false => rfl
        | true =>
          have := ahead_trans q e
          rw [h3 j hj (by omega)] at this
          cases this
    · have e1 : PySem.argBest bt (k + 1) = PySem.argBest bt k := if_neg e
      rw [hb _ _ h h1] at e
      refine ⟨by rw [e1]; exact h1, by rw [e1]; omega, fun j hj hk => ?_⟩
      simp only [e1]
      by_cases z : j = k + 1
      · subst z
        simpa using e
      · exact h3 j hj (by omega)
theorem minD_rows {rows : List Rw} (h : rows ≠ []) : ∃ x, leastOf rows x ∧ minD (rows.map rowD) = rowD x := by
  have hl : 0 < rows.length := List.length_pos_iff.mpr h
  have gd : ∀ i (hi : i < rows.length), (rows.map rowD).getD i .non = rowD rows[i] := fun i hi => by
    rw [List.getD_eq_getElem?_getD, List.getElem?_map, List.getElem?_eq_getElem hi]
    rfl
  obtain ⟨h1, h2, h3⟩ := best_least (rows := rows) (btD (rows.map rowD)) (fun i j hi hj => by
    unfold btD ahead
    rw [gd i hi, gd j hj, dKey_row, dKey_row]) (rows.length - 1) (by omega)
  refine ⟨rows[PySem.argBest (btD (rows.map rowD)) (rows.length - 1)], ⟨List.getElem_mem h1, fun y hy => ?_⟩, ?_⟩
  · obtain ⟨j, hj, rfl⟩ := List.getElem_of_mem hy
    exact h3 j hj (by omega)
  · unfold minD
    rw [List.length_map]
    exact gd _ h1
end AL
set_option maxHeartbeats 2000000
namespace AL
open PySem L2 Evl
variable {K : PySem.W.Frag}
/-! ### draws -/
def sp_law_pick : ASp := fun ds m P _ => ∃ (c s : Addr) (n : Int), ds = [tapeD c s, .int n] ∧ TapeIn m c s ∧ 0 < n ∧ n < 1073741824 ∧ ∀ (r : Int) m', 0 ≤ r → r < n → Tp c s m m' → P (.int r) m'
theorem fmod_in {a b : Int} (h : 0 < b) : 0 ≤ a.fmod b ∧ a.fmod b < b := ⟨Int.fmod_nonneg_of_pos a h, Int.fmod_lt_of_pos a h⟩
theorem lens_pos {cells : List Int} : (0 < ((cells.map D.int).length : Int)) ↔ cells ≠ [] := by
  cases cells with
  | nil => simp
  | cons a l => simp
theorem ends_in {α : Type} {l : List α} (h : l ≠ []) : ∃ a b, l = a ++ [b] := ⟨l.dropLast, l.getLast h, (List.dropLast_concat_getLast h).symm⟩
theorem set_last {α : Type} (a : List α) (b c : α) : (a ++ [b]).set ((a ++ [b]).length - 1) c = a ++ [c] := by
  simp
theorem rd_law_pick : ∀ ds m Q W, sp_law_pick ds m Q W → b_law_pick W { nx := fun _ m' => fzE K Q .non m', rt := fzE K Q } (ds.map some ++ List.replicate (N_law_pick.length - ds.length) none) m := by
  rintro ds m Q W ⟨c, s, n, rfl, tp, n0, n1, hq⟩
  change b_law_pick W _ [some (tapeD c s), some (.int n), none, none] m
  unfold b_law_pick tapeD
  obtain ⟨ne, cells0, st0, hc0, hs0, hcell0, s0, s1, hl0⟩ := tp
  simp only [aSeq, aSet, aC, aVar, aOp, aTest, aTru, aAnd, aOr, aNot, aAndV, aOrV, aNotV, aIfE, aNil, aCons, aTup, aLst, aLstB, aUn, aCa, aSl, aNo, aPart, aM, aML, aRet, aRetN, aIf, aDo, aNext, aCont, aBrk, aAsg, aCall, aCallX, aMeth, aFld, aSetFld, aFldAug, aAug, aRaise, aMake, aYes, kName, kCons, kNil, kSub, nth, put, wipeD, asT_b, fAdd_i, fAdd_s, fAdd_t, fAdd_l, fSub_i, fLt_i, fLe_i, fGt_i, fGe_i, fMul_i, fMod_i, fFdiv_i, fPow_i, fNeg_i, fEq_i, fEq_s, fEq_b, fNe_i, fNe_s, fNe_b, fIn_s, fNi_s, fIx_t0, fIx_t1, fIx_t2, fIx_l0, fIx_l1, fSl_s, fSl_t, fSl_l, fLen_t, fLen_l, fInt_i, fAbs_i, fMax_i, fMin_i, fTuple_t, fTuple_l, fList_t, fList_l, fRepS_s, seqOf_t, seqOf_l, truD_b, truD_t, truD_l, kTup_t, fIsN_n, fIsi_non_int, fIsi_non_bool, fIsi_non_str, fIsi_non_tuple, fIsi_non_list, fIsi_bl_int, fIsi_bl_bool, fIsi_bl_str, fIsi_bl_tuple, fIsi_bl_list, fIsi_int_int, fIsi_int_bool, fIsi_int_str, fIsi_int_tuple, fIsi_int_list, fIsi_str_int, fIsi_str_bool, fIsi_str_str, fIsi_str_tuple, fIsi_str_list, fIsi_tup_int, fIsi_tup_bool, fIsi_tup_str, fIsi_tup_tuple, fIsi_tup_list, fIsi_lst_int, fIsi_lst_bool, fIsi_lst_str, fIsi_lst_tuple, fIsi_lst_list, isN, fIx_sy0, fIx_sy1, ite_tt, ite_ff]
  refine ⟨fun k g m' => ∃ cells, g = [some (.lst [.box c, .box s]), some (.int n), some (.box c), none] ∧ m' = mset m c (.lst (cells.map .int)) ∧ k = cells.length ∧ cells.length ≤ 63 ∧ ∀ x ∈ cells, 0 ≤ x, ⟨cells0.length, cells0, rfl, (mset_self hc0).symm, rfl, hl0, hcell0⟩, ?_⟩
  rintro k g m' ⟨cells, rfl, rfl, rfl, hl, hcell⟩
  have hm : mset m c (.lst (cells.map .int)) c = some (.lst (cells.map .int)) := mset_same
  have hms : mset m c (.lst (cells.map .int)) s = some (.lst [.int st0]) := by
    rw [mset_ne (Ne.symm ne)]
    exact hs0
  simp only [aSeq, aSet, aC, aVar, aOp, aTest, aTru, aAnd, aOr, aNot, aAndV, aOrV, aNotV, aIfE, aNil, aCons, aTup, aLst, aLstB, aUn, aCa, aSl, aNo, aPart, aM, aML, aRet, aRetN, aIf, aDo, aNext, aCont, aBrk, aAsg, aCall, aCallX, aMeth, aFld, aSetFld, aFldAug, aAug, aRaise, aMake, aYes, kName, kCons, kNil, kSub, nth, put, wipeD, asT_b, fAdd_i, fAdd_s, fAdd_t, fAdd_l, fSub_i, fLt_i, fLe_i, fGt_i, fGe_i, fMul_i, fMod_i, fFdiv_i, fPow_i, fNeg_i, fEq_i, fEq_s, fEq_b, fNe_i, fNe_s, fNe_b, fIn_s, fNi_s, fIx_t0, fIx_t1, fIx_t2, fIx_l0, fIx_l1, fSl_s, fSl_t, fSl_l, fLen_t, fLen_l, fInt_i, fAbs_i, fMax_i, fMin_i, fTuple_t, fTuple_l, fList_t, fList_l, fRepS_s, seqOf_t, seqOf_l, truD_b, truD_t, truD_l, kTup_t, fIsN_n, fIsi_non_int, fIsi_non_bool, fIsi_non_str, fIsi_non_tuple, fIsi_non_list, fIsi_bl_int, fIsi_bl_bool, fIsi_bl_str, fIsi_bl_tuple, fIsi_bl_list, fIsi_int_int, fIsi_int_bool, fIsi_int_str, fIsi_int_tuple, fIsi_int_list, fIsi_str_int, fIsi_str_bool, fIsi_str_str, fIsi_str_tuple, fIsi_str_list, fIsi_tup_int, fIsi_tup_bool, fIsi_tup_str, fIsi_tup_tuple, fIsi_tup_list, fIsi_lst_int, fIsi_lst_bool, fIsi_lst_str, fIsi_lst_tuple, fIsi_lst_list, isN, fIx_sy0, fIx_sy1, ite_tt, ite_ff, fLen_b hm]
  by_cases hne : cells = []
  · subst hne
    rw [if_neg (by simp)]
    refine cut_plain ?_
    simp only [aSeq, aSet, aC, aVar, aOp, aTest, aTru, aAnd, aOr, aNot, aAndV, aOrV, aNotV, aIfE, aNil, aCons, aTup, aLst, aLstB, aUn, aCa, aSl, aNo, aPart, aM, aML, aRet, aRetN, aIf, aDo, aNext, aCont, aBrk, aAsg, aCall, aCallX, aMeth, aFld, aSetFld, aFldAug, aAug, aRaise, aMake, aYes, kName, kCons, kNil, kSub, nth, put, wipeD, asT_b, fAdd_i, fAdd_s, fAdd_t, fAdd_l, fSub_i, fLt_i, fLe_i, fGt_i, fGe_i, fMul_i, fMod_i, fFdiv_i, fPow_i, fNeg_i, fEq_i, fEq_s, fEq_b, fNe_i, fNe_s, fNe_b, fIn_s, fNi_s, fIx_t0, fIx_t1, fIx_t2, fIx_l0, fIx_l1, fSl_s, fSl_t, fSl_l, fLen_t, fLen_l, fInt_i, fAbs_i, fMax_i, fMin_i, fTuple_t, fTuple_l, fList_t, fList_l, fRepS_s, seqOf_t, seqOf_l, truD_b, truD_t, truD_l, kTup_t, fIsN_n, fIsi_non_int, fIsi_non_bool, fIsi_non_str, fIsi_non_tuple, fIsi_non_list, fIsi_bl_int, fIsi_bl_bool, fIsi_bl_str, fIsi_bl_tuple, fIsi_bl_list, fIsi_int_int, fIsi_int_bool, fIsi_int_str, fIsi_int_tuple, fIsi_int_list, fIsi_str_int, fIsi_str_bool, fIsi_str_str, fIsi_str_tuple, fIsi_str_list, fIsi_tup_int, fIsi_tup_bool, fIsi_tup_str, fIsi_tup_tuple, fIsi_tup_list, fIsi_lst_int, fIsi_lst_bool, fIsi_lst_str, fIsi_lst_tuple, fIsi_lst_list, isN, fIx_sy0, fIx_sy1, ite_tt, ite_ff, fLen_b hm]
    rw [if_neg (by simp)]
    have key : ∀ x : Int, 0 ≤ x → x < 2147483647 → Tp c s m (mset (mset m c (.lst (([] : List Int).map .int))) s (.lst [.int x])) := fun x h1 h2 => by
      refine ⟨⟨ne, [], x, ?_, mset_same, fun _ h => (by cases h), h1, h2, by simp⟩, fun a ha hb => ?_⟩
      · rw [mset_ne ne, mset_same]
      · rw [mset_ne hb, mset_ne ha]
    have hq' := fun r x h1 h2 h3 h4 => fzE.of (K := K) (hq r _ h1 h2 (key x h3 h4))
    obtain ⟨f1, f2⟩ := fmod_in (a := st0 * 16807 + 9) (b := 2147483647) (by decide)
    obtain ⟨g1, g2⟩ := fmod_in (a := ((st0 * 16807 + 9).fmod 2147483647).fdiv 32) (b := n) n0
    have hi : atI [D.int st0] 0 = some (.int st0) := rfl
    have hi2 : atI ([D.int st0].set 0 (.int ((st0 * 16807 + 9).fmod 2147483647))) 0 = some (.int ((st0 * 16807 + 9).fmod 2147483647)) := rfl
    have hk : ixN [D.int st0].length 0 = some 0 := rfl
    simp only [aSeq, aSet, aC, aVar, aOp, aTest, aTru, aAnd, aOr, aNot, aAndV, aOrV, aNotV, aIfE, aNil, aCons, aTup, aLst, aLstB, aUn, aCa, aSl, aNo, aPart, aM, aML, aRet, aRetN, aIf, aDo, aNext, aCont, aBrk, aAsg, aCall, aCallX, aMeth, aFld, aSetFld, aFldAug, aAug, aRaise, aMake, aYes, kName, kCons, kNil, kSub, nth, put, wipeD, asT_b, fAdd_i, fAdd_s, fAdd_t, fAdd_l, fSub_i, fLt_i, fLe_i, fGt_i, fGe_i, fMul_i, fMod_i, fFdiv_i, fPow_i, fNeg_i, fEq_i, fEq_s, fEq_b, fNe_i, fNe_s, fNe_b, fIn_s, fNi_s, fIx_t0, fIx_t1, fIx_t2, fIx_l0, fIx_l1, fSl_s, fSl_t, fSl_l, fLen_t, fLen_l, fInt_i, fAbs_i, fMax_i, fMin_i, fTuple_t, fTuple_l, fList_t, fList_l, fRepS_s, seqOf_t, seqOf_l, truD_b, truD_t, truD_l, kTup_t, fIsN_n, fIsi_non_int, fIsi_non_bool, fIsi_non_str, fIsi_non_tuple, fIsi_non_list, fIsi_bl_int, fIsi_bl_bool, fIsi_bl_str, fIsi_bl_tuple, fIsi_bl_list, fIsi_int_int, fIsi_int_bool, fIsi_int_str, fIsi_int_tuple, fIsi_int_list, fIsi_str_int, fIsi_str_bool, fIsi_str_str, fIsi_str_tuple, fIsi_str_list, fIsi_tup_int, fIsi_tup_bool, fIsi_tup_str, fIsi_tup_tuple, fIsi_tup_list, fIsi_lst_int, fIsi_lst_bool, fIsi_lst_str, fIsi_lst_tuple, fIsi_lst_list, isN, fIx_sy0, fIx_sy1, ite_tt, ite_ff, fIx_b hms hi, fSetIx_b hms hk, fIx_b mset_same hi2]
    refine ⟨.inl ⟨by omega, by omega⟩, by decide, ⟨by decide, by decide⟩, by omega, ?_⟩
    exact hq' _ _ g1 g2 f1 f2
  · obtain ⟨ini, x, rfl⟩ := ends_in hne
    have hx : 0 ≤ x := hcell x (by simp)
    have hm' : mset m c (.lst ((ini ++ [x]).map .int)) c = some (.lst (ini.map .int ++ [.int x])) := by
      rw [mset_same, List.map_append] <;> rfl
    have hcelli : ∀ y ∈ ini, 0 ≤ y := fun y hy => hcell y (by simp [hy])
    have hli : ini.length ≤ 62 := by
      rw [List.length_append, List.length_singleton] at hl
      omega
    rw [if_pos (decide_eq_true (lens_pos.mpr hne))]
    simp only [aSeq, aSet, aC, aVar, aOp, aTest, aTru, aAnd, aOr, aNot, aAndV, aOrV, aNotV, aIfE, aNil, aCons, aTup, aLst, aLstB, aUn, aCa, aSl, aNo, aPart, aM, aML, aRet, aRetN, aIf, aDo, aNext, aCont, aBrk, aAsg, aCall, aCallX, aMeth, aFld, aSetFld, aFldAug, aAug, aRaise, aMake, aYes, kName, kCons, kNil, kSub, nth, put, wipeD, asT_b, fAdd_i, fAdd_s, fAdd_t, fAdd_l, fSub_i, fLt_i, fLe_i, fGt_i, fGe_i, fMul_i, fMod_i, fFdiv_i, fPow_i, fNeg_i, fEq_i, fEq_s, fEq_b, fNe_i, fNe_s, fNe_b, fIn_s, fNi_s, fIx_t0, fIx_t1, fIx_t2, fIx_l0, fIx_l1, fSl_s, fSl_t, fSl_l, fLen_t, fLen_l, fInt_i, fAbs_i, fMax_i, fMin_i, fTuple_t, fTuple_l, fList_t, fList_l, fRepS_s, seqOf_t, seqOf_l, truD_b, truD_t, truD_l, kTup_t, fIsN_n, fIsi_non_int, fIsi_non_bool, fIsi_non_str, fIsi_non_tuple, fIsi_non_list, fIsi_bl_int, fIsi_bl_bool, fIsi_bl_str, fIsi_bl_tuple, fIsi_bl_list, fIsi_int_int, fIsi_int_bool, fIsi_int_str, fIsi_int_tuple, fIsi_int_list, fIsi_str_int, fIsi_str_bool, fIsi_str_str, fIsi_str_tuple, fIsi_str_list, fIsi_tup_int, fIsi_tup_bool, fIsi_tup_str, fIsi_tup_tuple, fIsi_tup_list, fIsi_lst_int, fIsi_lst_bool, fIsi_lst_str, fIsi_lst_tuple, fIsi_lst_list, isN, fIx_sy0, fIx_sy1, ite_tt, ite_ff, fIx_b hm' atI_last]
    have more : ∀ y : Int, 0 ≤ y → Tp c s m (mset (mset m c (.lst ((ini ++ [x]).map .int))) c (.lst ((ini ++ [y]).map .int))) := fun y hy => by
      refine ⟨⟨ne, ini ++ [y], st0, mset_same, ?_, fun z hz => ?_, s0, s1, by simp; omega⟩, fun a ha hb => ?_⟩
      · rw [mset_ne (Ne.symm ne), mset_ne (Ne.symm ne)]
        exact hs0
      · rcases List.mem_append.mp hz with h | h
        · exact hcelli z h
        · rw [List.mem_singleton.mp h]
          exact hy
      · rw [mset_ne ha, mset_ne ha]
    by_cases h0 : x = 0
    · rw [if_pos (decide_eq_true h0)]
      simp only [aSeq, aSet, aC, aVar, aOp, aTest, aTru, aAnd, aOr, aNot, aAndV, aOrV, aNotV, aIfE, aNil, aCons, aTup, aLst, aLstB, aUn, aCa, aSl, aNo, aPart, aM, aML, aRet, aRetN, aIf, aDo, aNext, aCont, aBrk, aAsg, aCall, aCallX, aMeth, aFld, aSetFld, aFldAug, aAug, aRaise, aMake, aYes, kName, kCons, kNil, kSub, nth, put, wipeD, asT_b, fAdd_i, fAdd_s, fAdd_t, fAdd_l, fSub_i, fLt_i, fLe_i, fGt_i, fGe_i, fMul_i, fMod_i, fFdiv_i, fPow_i, fNeg_i, fEq_i, fEq_s, fEq_b, fNe_i, fNe_s, fNe_b, fIn_s, fNi_s, fIx_t0, fIx_t1, fIx_t2, fIx_l0, fIx_l1, fSl_s, fSl_t, fSl_l, fLen_t, fLen_l, fInt_i, fAbs_i, fMax_i, fMin_i, fTuple_t, fTuple_l, fList_t, fList_l, fRepS_s, seqOf_t, seqOf_l, truD_b, truD_t, truD_l, kTup_t, fIsN_n, fIsi_non_int, fIsi_non_bool, fIsi_non_str, fIsi_non_tuple, fIsi_non_list, fIsi_bl_int, fIsi_bl_bool, fIsi_bl_str, fIsi_bl_tuple, fIsi_bl_list, fIsi_int_int, fIsi_int_bool, fIsi_int_str, fIsi_int_tuple, fIsi_int_list, fIsi_str_int, fIsi_str_bool, fIsi_str_str, fIsi_str_tuple, fIsi_str_list, fIsi_tup_int, fIsi_tup_bool, fIsi_tup_str, fIsi_tup_tuple, fIsi_tup_list, fIsi_lst_int, fIsi_lst_bool, fIsi_lst_str, fIsi_lst_tuple, fIsi_lst_list, isN, fIx_sy0, fIx_sy1, ite_tt, ite_ff, isL_b hm', fPop_b hm' rfl, true_and]
      exact ⟨ini.length, by simp, ini, mset_mset, rfl, by omega, hcelli⟩
    · rw [if_neg (by simp [h0])]
      refine cut_plain ?_
      simp only [aSeq, aSet, aC, aVar, aOp, aTest, aTru, aAnd, aOr, aNot, aAndV, aOrV, aNotV, aIfE, aNil, aCons, aTup, aLst, aLstB, aUn, aCa, aSl, aNo, aPart, aM, aML, aRet, aRetN, aIf, aDo, aNext, aCont, aBrk, aAsg, aCall, aCallX, aMeth, aFld, aSetFld, aFldAug, aAug, aRaise, aMake, aYes, kName, kCons, kNil, kSub, nth, put, wipeD, asT_b, fAdd_i, fAdd_s, fAdd_t, fAdd_l, fSub_i, fLt_i, fLe_i, fGt_i, fGe_i, fMul_i, fMod_i, fFdiv_i, fPow_i, fNeg_i, fEq_i, fEq_s, fEq_b, fNe_i, fNe_s, fNe_b, fIn_s, fNi_s, fIx_t0, fIx_t1, fIx_t2, fIx_l0, fIx_l1, fSl_s, fSl_t, fSl_l, fLen_t, fLen_l, fInt_i, fAbs_i, fMax_i, fMin_i, fTuple_t, fTuple_l, fList_t, fList_l, fRepS_s, seqOf_t, seqOf_l, truD_b, truD_t, truD_l, kTup_t, fIsN_n, fIsi_non_int, fIsi_non_bool, fIsi_non_str, fIsi_non_tuple, fIsi_non_list, fIsi_bl_int, fIsi_bl_bool, fIsi_bl_str, fIsi_bl_tuple, fIsi_bl_list, fIsi_int_int, fIsi_int_bool, fIsi_int_str, fIsi_int_tuple, fIsi_int_list, fIsi_str_int, fIsi_str_bool, fIsi_str_str, fIsi_str_tuple, fIsi_str_list, fIsi_tup_int, fIsi_tup_bool, fIsi_tup_str, fIsi_tup_tuple, fIsi_tup_list, fIsi_lst_int, fIsi_lst_bool, fIsi_lst_str, fIsi_lst_tuple, fIsi_lst_list, isN, fIx_sy0, fIx_sy1, ite_tt, ite_ff, fLen_b hm]
      rw [if_pos (decide_eq_true (lens_pos.mpr hne))]
      simp only [aSeq, aSet, aC, aVar, aOp, aTest, aTru, aAnd, aOr, aNot, aAndV, aOrV, aNotV, aIfE, aNil, aCons, aTup, aLst, aLstB, aUn, aCa, aSl, aNo, aPart, aM, aML, aRet, aRetN, aIf, aDo, aNext, aCont, aBrk, aAsg, aCall, aCallX, aMeth, aFld, aSetFld, aFldAug, aAug, aRaise, aMake, aYes, kName, kCons, kNil, kSub, nth, put, wipeD, asT_b, fAdd_i, fAdd_s, fAdd_t, fAdd_l, fSub_i, fLt_i, fLe_i, fGt_i, fGe_i, fMul_i, fMod_i, fFdiv_i, fPow_i, fNeg_i, fEq_i, fEq_s, fEq_b, fNe_i, fNe_s, fNe_b, fIn_s, fNi_s, fIx_t0, fIx_t1, fIx_t2, fIx_l0, fIx_l1, fSl_s, fSl_t, fSl_l, fLen_t, fLen_l, fInt_i, fAbs_i, fMax_i, fMin_i, fTuple_t, fTuple_l, fList_t, fList_l, fRepS_s, seqOf_t, seqOf_l, truD_b, truD_t, truD_l, kTup_t, fIsN_n, fIsi_non_int, fIsi_non_bool, fIsi_non_str, fIsi_non_tuple, fIsi_non_list, fIsi_bl_int, fIsi_bl_bool, fIsi_bl_str, fIsi_bl_tuple, fIsi_bl_list, fIsi_int_int, fIsi_int_bool, fIsi_int_str, fIsi_int_tuple, fIsi_int_list, fIsi_str_int, fIsi_str_bool, fIsi_str_str, fIsi_str_tuple, fIsi_str_list, fIsi_tup_int, fIsi_tup_bool, fIsi_tup_str, fIsi_tup_tuple, fIsi_tup_list, fIsi_lst_int, fIsi_lst_bool, fIsi_lst_str, fIsi_lst_tuple, fIsi_lst_list, isN, fIx_sy0, fIx_sy1, ite_tt, ite_ff, fIx_b hm' atI_last]
      refine ⟨by omega, ⟨by omega, by omega⟩, ?_⟩
      rw [fSetIx_b hm' (k := (ini.map D.int ++ [D.int x]).length - 1) (ixN_last (by simp)), set_last]
      obtain ⟨f1, f2⟩ := fmod_in (a := x) (b := n) n0
      have := more (x.fdiv n) (Int.fdiv_nonneg hx (by omega))
      have e : (ini ++ [x.fdiv n]).map D.int = ini.map D.int ++ [D.int (x.fdiv n)] := by simp
      rw [e] at this
      exact fzE.of (hq _ _ f1 f2 this)
/-! ### the tape made -/
def sp_law_tape : ASp := fun ds m P _ => ∃ (ns : List Int), ds = [.scr ns] ∧ ns.length ≤ 63 ∧ ∀ c s m', m c = none → m s = none → TapeIn m' c s → (∀ a, a ≠ c → a ≠ s → m' a = m a) → P (tapeD c s) m'
theorem rd_law_tape : ∀ ds m Q W, sp_law_tape ds m Q W → b_law_tape W { nx := fun _ m' => fzE K Q .non m', rt := fzE K Q } (ds.map some ++ List.replicate (N_law_tape.length - ds.length) none) m := by
  rintro ds m Q W ⟨ns, rfl, hl, hq⟩
  change b_law_tape W _ [some (.scr ns), none, none, none] m
  unfold b_law_tape
  simp only [aSeq, aSet, aC, aVar, aOp, aTest, aTru, aAnd, aOr, aNot, aAndV, aOrV, aNotV, aIfE, aNil, aCons, aTup, aLst, aLstB, aUn, aCa, aSl, aNo, aPart, aM, aML, aRet, aRetN, aIf, aDo, aNext, aCont, aBrk, aAsg, aCall, aCallX, aMeth, aFld, aSetFld, aFldAug, aAug, aRaise, aMake, aYes, kName, kCons, kNil, kSub, nth, put, wipeD, asT_b, fAdd_i, fAdd_s, fAdd_t, fAdd_l, fSub_i, fLt_i, fLe_i, fGt_i, fGe_i, fMul_i, fMod_i, fFdiv_i, fPow_i, fNeg_i, fEq_i, fEq_s, fEq_b, fNe_i, fNe_s, fNe_b, fIn_s, fNi_s, fIx_t0, fIx_t1, fIx_t2, fIx_l0, fIx_l1, fSl_s, fSl_t, fSl_l, fLen_t, fLen_l, fInt_i, fAbs_i, fMax_i, fMin_i, fTuple_t, fTuple_l, fList_t, fList_l, fRepS_s, seqOf_t, seqOf_l, truD_b, truD_t, truD_l, kTup_t, fIsN_n, fIsi_non_int, fIsi_non_bool, fIsi_non_str, fIsi_non_tuple, fIsi_non_list, fIsi_bl_int, fIsi_bl_bool, fIsi_bl_str, fIsi_bl_tuple, fIsi_bl_list, fIsi_int_int, fIsi_int_bool, fIsi_int_str, fIsi_int_tuple, fIsi_int_list, fIsi_str_int, fIsi_str_bool, fIsi_str_str, fIsi_str_tuple, fIsi_str_list, fIsi_tup_int, fIsi_tup_bool, fIsi_tup_str, fIsi_tup_tuple, fIsi_tup_list, fIsi_lst_int, fIsi_lst_bool, fIsi_lst_str, fIsi_lst_tuple, fIsi_lst_list, isN, fIx_sy0, fIx_sy1, ite_tt, ite_ff, aFor]
  refine ⟨ns.map .int, rfl, fun i g m' => ∃ st x, g = [some (.scr ns), some (.int st), x, none] ∧ m' = m ∧ 0 ≤ st ∧ st < 2147483647, ⟨_, _, rfl, rfl, by decide, by decide⟩, fun _ _ _ _ _ => rfl, ?_, ?_⟩
  · rintro i x g m' hx ⟨st, y, rfl, rfl, h1, h2⟩
    obtain ⟨v, hv, rfl⟩ : ∃ v, ns[i]? = some v ∧ x = .int v := by
      rw [List.getElem?_map] at hx
      cases e : ns[i]? with
      | none =>
        rw [e] at hx
        cases hx
      | some v =>
        rw [e] at hx
        cases hx
        exact ⟨v, rfl, rfl⟩
    simp only [aSeq, aSet, aC, aVar, aOp, aTest, aTru, aAnd, aOr, aNot, aAndV, aOrV, aNotV, aIfE, aNil, aCons, aTup, aLst, aLstB, aUn, aCa, aSl, aNo, aPart, aM, aML, aRet, aRetN, aIf, aDo, aNext, aCont, aBrk, aAsg, aCall, aCallX, aMeth, aFld, aSetFld, aFldAug, aAug, aRaise, aMake, aYes, kName, kCons, kNil, kSub, nth, put, wipeD, asT_b, fAdd_i, fAdd_s, fAdd_t, fAdd_l, fSub_i, fLt_i, fLe_i, fGt_i, fGe_i, fMul_i, fMod_i, fFdiv_i, fPow_i, fNeg_i, fEq_i, fEq_s, fEq_b, fNe_i, fNe_s, fNe_b, fIn_s, fNi_s, fIx_t0, fIx_t1, fIx_t2, fIx_l0, fIx_l1, fSl_s, fSl_t, fSl_l, fLen_t, fLen_l, fInt_i, fAbs_i, fMax_i, fMin_i, fTuple_t, fTuple_l, fList_t, fList_l, fRepS_s, seqOf_t, seqOf_l, truD_b, truD_t, truD_l, kTup_t, fIsN_n, fIsi_non_int, fIsi_non_bool, fIsi_non_str, fIsi_non_tuple, fIsi_non_list, fIsi_bl_int, fIsi_bl_bool, fIsi_bl_str, fIsi_bl_tuple, fIsi_bl_list, fIsi_int_int, fIsi_int_bool, fIsi_int_str, fIsi_int_tuple, fIsi_int_list, fIsi_str_int, fIsi_str_bool, fIsi_str_str, fIsi_str_tuple, fIsi_str_list, fIsi_tup_int, fIsi_tup_bool, fIsi_tup_str, fIsi_tup_tuple, fIsi_tup_list, fIsi_lst_int, fIsi_lst_bool, fIsi_lst_str, fIsi_lst_tuple, fIsi_lst_list, isN, fIx_sy0, fIx_sy1, ite_tt, ite_ff]
    obtain ⟨f1, f2⟩ := fmod_in (a := st * 52361 + v + 29) (b := 2147483647) (by decide)
    exact ⟨.inl ⟨by omega, by omega⟩, by decide, _, _, rfl, by trivial, f1, f2⟩
  · rintro g m' ⟨st, y, rfl, rfl, h1, h2⟩
    simp only [aSeq, aSet, aC, aVar, aOp, aTest, aTru, aAnd, aOr, aNot, aAndV, aOrV, aNotV, aIfE, aNil, aCons, aTup, aLst, aLstB, aUn, aCa, aSl, aNo, aPart, aM, aML, aRet, aRetN, aIf, aDo, aNext, aCont, aBrk, aAsg, aCall, aCallX, aMeth, aFld, aSetFld, aFldAug, aAug, aRaise, aMake, aYes, kName, kCons, kNil, kSub, nth, put, wipeD, asT_b, fAdd_i, fAdd_s, fAdd_t, fAdd_l, fSub_i, fLt_i, fLe_i, fGt_i, fGe_i, fMul_i, fMod_i, fFdiv_i, fPow_i, fNeg_i, fEq_i, fEq_s, fEq_b, fNe_i, fNe_s, fNe_b, fIn_s, fNi_s, fIx_t0, fIx_t1, fIx_t2, fIx_l0, fIx_l1, fSl_s, fSl_t, fSl_l, fLen_t, fLen_l, fInt_i, fAbs_i, fMax_i, fMin_i, fTuple_t, fTuple_l, fList_t, fList_l, fRepS_s, seqOf_t, seqOf_l, truD_b, truD_t, truD_l, kTup_t, fIsN_n, fIsi_non_int, fIsi_non_bool, fIsi_non_str, fIsi_non_tuple, fIsi_non_list, fIsi_bl_int, fIsi_bl_bool, fIsi_bl_str, fIsi_bl_tuple, fIsi_bl_list, fIsi_int_int, fIsi_int_bool, fIsi_int_str, fIsi_int_tuple, fIsi_int_list, fIsi_str_int, fIsi_str_bool, fIsi_str_str, fIsi_str_tuple, fIsi_str_list, fIsi_tup_int, fIsi_tup_bool, fIsi_tup_str, fIsi_tup_tuple, fIsi_tup_list, fIsi_lst_int, fIsi_lst_bool, fIsi_lst_str, fIsi_lst_tuple, fIsi_lst_list, isN, fIx_sy0, fIx_sy1, ite_tt, ite_ff, aLc]
    refine ⟨ns.map .int, rfl, fun p hp => lc_pure (fun i => (ns[i]?).map fun y => .int (if y < 0 then -y else y)) (by simp; omega) (fun _ => rfl) (fun i acc hi h => ?_) ?_⟩
    · have hi : i < ns.length := by simpa using hi
      have e : (ns.map D.int).getD i .non = .int ns[i] := by simp [hi]
      simp only [e]
      simp only [aSeq, aSet, aC, aVar, aOp, aTest, aTru, aAnd, aOr, aNot, aAndV, aOrV, aNotV, aIfE, aNil, aCons, aTup, aLst, aLstB, aUn, aCa, aSl, aNo, aPart, aM, aML, aRet, aRetN, aIf, aDo, aNext, aCont, aBrk, aAsg, aCall, aCallX, aMeth, aFld, aSetFld, aFldAug, aAug, aRaise, aMake, aYes, kName, kCons, kNil, kSub, nth, put, wipeD, asT_b, fAdd_i, fAdd_s, fAdd_t, fAdd_l, fSub_i, fLt_i, fLe_i, fGt_i, fGe_i, fMul_i, fMod_i, fFdiv_i, fPow_i, fNeg_i, fEq_i, fEq_s, fEq_b, fNe_i, fNe_s, fNe_b, fIn_s, fNi_s, fIx_t0, fIx_t1, fIx_t2, fIx_l0, fIx_l1, fSl_s, fSl_t, fSl_l, fLen_t, fLen_l, fInt_i, fAbs_i, fMax_i, fMin_i, fTuple_t, fTuple_l, fList_t, fList_l, fRepS_s, seqOf_t, seqOf_l, truD_b, truD_t, truD_l, kTup_t, fIsN_n, fIsi_non_int, fIsi_non_bool, fIsi_non_str, fIsi_non_tuple, fIsi_non_list, fIsi_bl_int, fIsi_bl_bool, fIsi_bl_str, fIsi_bl_tuple, fIsi_bl_list, fIsi_int_int, fIsi_int_bool, fIsi_int_str, fIsi_int_tuple, fIsi_int_list, fIsi_str_int, fIsi_str_bool, fIsi_str_str, fIsi_str_tuple, fIsi_str_list, fIsi_tup_int, fIsi_tup_bool, fIsi_tup_str, fIsi_tup_tuple, fIsi_tup_list, fIsi_lst_int, fIsi_lst_bool, fIsi_lst_str, fIsi_lst_tuple, fIsi_lst_list, isN, fIx_sy0, fIx_sy1, ite_tt, ite_ff]
      exact pvF_yes h (by simp [hi])
    · have e : (List.range (ns.map D.int).length).filterMap (fun i => (ns[i]?).map fun y => .int (if y < 0 then -y else y)) = (ns.map fun y => if y < 0 then -y else y).map D.int := by
        rw [List.length_map, List.map_map]
        exact fm_map fun i a ha => by rw [ha] <;> rfl
      rw [e, if_pos (by trivial), mdel_mset hp]
      simp only [aRevB, aVar, nth, lstOf]
      intro c hc
      refine ⟨by simp, fun s hs => ?_⟩
      have ne : s ≠ c := fun z => by
        rw [z, mset_same] at hs
        cases hs
      rw [mset_ne ne] at hs
      refine ⟨by simp, fzE.of (hq c s _ hc hs ⟨ne.symm, (ns.map fun y => if y < 0 then -y else y).reverse, st, ?_, mset_same, fun x hx => ?_, h1, h2, by simp; omega⟩ fun a ha hb => ?_)⟩
      · rw [mset_ne ne.symm, mset_same, List.map_reverse]
      · simp only [List.mem_reverse, List.mem_map] at hx
        obtain ⟨y, _, rfl⟩ := hx
        split <;> omega
      · rw [mset_ne hb, mset_ne ha]
/-! ### the symbols of a script -/
def low (c : Nat) : Prop := 97 ≤ c ∧ c ≤ 122
def wsg (c : Nat) : Prop := low c ∨ (48 ≤ c ∧ c ≤ 57) ∨ c = 45
instance : DecidablePred low := fun c => by unfold low; infer_instance
instance : DecidablePred wsg := fun c => by unfold wsg; infer_instance
def okWord (w : List Nat) : Prop := w = [46] ∨ ∃ c r, w = c :: r ∧ low c ∧ (∀ x ∈ r, wsg x) ∧ r.length ≤ 15
def goodSy (s : Sy) : Prop := okWord s.w ∧ s.n ≤ 4 ∧ (s.w = [46] → s.n = 0)
structure MarksOk (ms : List Sy) : Prop where
  two : 2 ≤ ms.length
  few : ms.length ≤ 20
  good : ∀ s ∈ ms, goodSy s
  leaf : ∀ i s, i < 2 → ms[i]? = some s → s.n = 0
def sp_law_marks : ASp := fun ds m P _ => ∃ c s, ds = [tapeD c s] ∧ TapeIn m c s ∧ ∀ ms m', MarksOk ms → Tp c s m m' → P (.lst (ms.map syD)) m'
def nmW : List (List Nat) := [[98], [97, 98], [97, 45, 57], [122, 122, 48], [113], [97, 98, 99, 100, 101, 102, 103, 104, 105, 106, 107, 108, 109, 110, 111, 112], [99], [98, 45]]
theorem nmW_ok : ∀ w ∈ nmW, okWord w ∧ w ≠ [46] := by
  intro w hw
  have : ∃ c r, w = c :: r ∧ low c ∧ (∀ x ∈ r, wsg x) ∧ r.length ≤ 15 := by
    simp only [nmW, List.mem_cons, List.not_mem_nil, or_false] at hw
    rcases hw with rfl | rfl | rfl | rfl | rfl | rfl | rfl | rfl <;> exact ⟨_, _, rfl, by decide, by decide, by decide⟩
  refine ⟨.inr this, ?_⟩
  rintro rfl
  obtain ⟨c, r, e, h, _⟩ := this
  cases e
  exact absurd h (by decide)
theorem nm_get {i : Int} (h0 : 0 ≤ i) (h8 : i < 8) : ∃ w, w ∈ nmW ∧ atI ([.str "b", .str "ab", .str "a-9", .str "zz0", .str "q", .str "abcdefghijklmnop", .str "c", .str "b-"] : List D) i = some (.str (tx w)) := by
  have : i = 0 ∨ i = 1 ∨ i = 2 ∨ i = 3 ∨ i = 4 ∨ i = 5 ∨ i = 6 ∨ i = 7 := by omega
  rcases this with rfl | rfl | rfl | rfl | rfl | rfl | rfl | rfl
  · exact ⟨nmW[0], by decide, by rfl⟩
  · exact ⟨nmW[1], by decide, by rfl⟩
  · exact ⟨nmW[2], by decide, by rfl⟩
  · exact ⟨nmW[3], by decide, by rfl⟩
  · exact ⟨nmW[4], by decide, by rfl⟩
  · exact ⟨nmW[5], by decide, by rfl⟩
  · exact ⟨nmW[6], by decide, by rfl⟩
  · exact ⟨nmW[7], by decide, by rfl⟩
theorem nn_of {r : Int} (h : 0 ≤ r) : ∃ k : Nat, r = k := ⟨r.toNat, by omega⟩
theorem rd_law_marks : ∀ ds m Q W, sp_law_marks ds m Q W → b_law_marks sp_law_pick W { nx := fun _ m' => fzE K Q .non m', rt := fzE K Q } (ds.map some ++ List.replicate (N_law_marks.length - ds.length) none) m := by
  rintro ds m Q W ⟨c, s, rfl, tp, hq⟩
  change b_law_marks sp_law_pick W _ [some (tapeD c s), none, none, none, none] m
  unfold b_law_marks
  simp only [aSeq, aSet, aC, aVar, aOp, aTest, aTru, aAnd, aOr, aNot, aAndV, aOrV, aNotV, aIfE, aNil, aCons, aTup, aLst, aLstB, aUn, aCa, aSl, aNo, aPart, aM, aML, aRet, aRetN, aIf, aDo, aNext, aCont, aBrk, aAsg, aCall, aCallX, aMeth, aFld, aSetFld, aFldAug, aAug, aRaise, aMake, aYes, kName, kCons, kNil, kSub, nth, put, wipeD, asT_b, fAdd_i, fAdd_s, fAdd_t, fAdd_l, fSub_i, fLt_i, fLe_i, fGt_i, fGe_i, fMul_i, fMod_i, fFdiv_i, fPow_i, fNeg_i, fEq_i, fEq_s, fEq_b, fNe_i, fNe_s, fNe_b, fIn_s, fNi_s, fIx_t0, fIx_t1, fIx_t2, fIx_l0, fIx_l1, fSl_s, fSl_t, fSl_l, fLen_t, fLen_l, fInt_i, fAbs_i, fMax_i, fMin_i, fTuple_t, fTuple_l, fList_t, fList_l, fRepS_s, seqOf_t, seqOf_l, truD_b, truD_t, truD_l, kTup_t, fIsN_n, fIsi_non_int, fIsi_non_bool, fIsi_non_str, fIsi_non_tuple, fIsi_non_list, fIsi_bl_int, fIsi_bl_bool, fIsi_bl_str, fIsi_bl_tuple, fIsi_bl_list, fIsi_int_int, fIsi_int_bool, fIsi_int_str, fIsi_int_tuple, fIsi_int_list, fIsi_str_int, fIsi_str_bool, fIsi_str_str, fIsi_str_tuple, fIsi_str_list, fIsi_tup_int, fIsi_tup_bool, fIsi_tup_str, fIsi_tup_tuple, fIsi_tup_list, fIsi_lst_int, fIsi_lst_bool, fIsi_lst_str, fIsi_lst_tuple, fIsi_lst_list, isN, fIx_sy0, fIx_sy1, ite_tt, ite_ff]
  refine ⟨by decide, c, s, 8, rfl, tp, by decide, by decide, fun r m1 r0 r8 t1 => ?_⟩
  obtain ⟨w1, hw1, e1⟩ := nm_get r0 r8
  obtain ⟨f1, f2⟩ := fmod_in (a := r + 1) (b := 8) (by decide)
  obtain ⟨w2, hw2, e2⟩ := nm_get f1 f2
  simp only [aSeq, aSet, aC, aVar, aOp, aTest, aTru, aAnd, aOr, aNot, aAndV, aOrV, aNotV, aIfE, aNil, aCons, aTup, aLst, aLstB, aUn, aCa, aSl, aNo, aPart, aM, aML, aRet, aRetN, aIf, aDo, aNext, aCont, aBrk, aAsg, aCall, aCallX, aMeth, aFld, aSetFld, aFldAug, aAug, aRaise, aMake, aYes, kName, kCons, kNil, kSub, nth, put, wipeD, asT_b, fAdd_i, fAdd_s, fAdd_t, fAdd_l, fSub_i, fLt_i, fLe_i, fGt_i, fGe_i, fMul_i, fMod_i, fFdiv_i, fPow_i, fNeg_i, fEq_i, fEq_s, fEq_b, fNe_i, fNe_s, fNe_b, fIn_s, fNi_s, fIx_t0, fIx_t1, fIx_t2, fIx_l0, fIx_l1, fSl_s, fSl_t, fSl_l, fLen_t, fLen_l, fInt_i, fAbs_i, fMax_i, fMin_i, fTuple_t, fTuple_l, fList_t, fList_l, fRepS_s, seqOf_t, seqOf_l, truD_b, truD_t, truD_l, kTup_t, fIsN_n, fIsi_non_int, fIsi_non_bool, fIsi_non_str, fIsi_non_tuple, fIsi_non_list, fIsi_bl_int, fIsi_bl_bool, fIsi_bl_str, fIsi_bl_tuple, fIsi_bl_list, fIsi_int_int, fIsi_int_bool, fIsi_int_str, fIsi_int_tuple, fIsi_int_list, fIsi_str_int, fIsi_str_bool, fIsi_str_str, fIsi_str_tuple, fIsi_str_list, fIsi_tup_int, fIsi_tup_bool, fIsi_tup_str, fIsi_tup_tuple, fIsi_tup_list, fIsi_lst_int, fIsi_lst_bool, fIsi_lst_str, fIsi_lst_tuple, fIsi_lst_list, isN, fIx_sy0, fIx_sy1, ite_tt, ite_ff, fIx_l e1, fIx_l e2]
  refine ⟨by simp, by decide, by simp, by simp, fun p hp => ?_⟩
  have fr0 := (Fr.of t1).add (o := .lst [.tup [.str (tx w1), .int 0], .tup [.str (tx w2), .int 0]]) hp
  have hpm : m p = none := (Fr.of t1).new hp (by simp)
  have hap := t1.tp.apart hp
  -- the state: the symbols so far stand at p
  let St : List Sy → Mu → Prop := fun ms m' => MarksOk ms ∧ m' p = some (.lst (ms.map syD)) ∧ Fr c s [p] m m'
  have ok2 : ∀ w, w ∈ nmW ∨ w = [46] → MarksOk [⟨w1, 0⟩, ⟨w, 0⟩] := fun w hw => by
    refine ⟨by simp, by simp, fun x hx => ?_, fun i x hi hx => ?_⟩
    · simp only [List.mem_cons, List.not_mem_nil, or_false] at hx
      rcases hx with rfl | rfl
      · exact ⟨(nmW_ok _ hw1).1, Nat.zero_le _, fun _ => rfl⟩
      · refine ⟨?_, Nat.zero_le _, fun _ => rfl⟩
        rcases hw with hw | rfl
        · exact (nmW_ok _ hw).1
        · exact .inl rfl
    · have : i = 0 ∨ i = 1 := by omega
      rcases this with rfl | rfl <;> (cases hx; rfl)
  have more : ∀ {ms : List Sy} {m2 m3 : Mu} {x : Sy}, St ms m2 → goodSy x → ms.length < 20 → Tp c s m2 m3 → St (ms ++ [x]) (mset m3 p (.lst ((ms ++ [x]).map syD))) := by
    rintro ms m2 m3 x ⟨⟨a1, a2, a3, a4⟩, b1, b2⟩ hx hl t
    refine ⟨⟨by simp; omega, by simp; omega, fun y hy => ?_, fun i y hi hy => ?_⟩, mset_same, (b2.go t).set (by simp)⟩
    · rcases List.mem_append.mp hy with h | h
      · exact a3 y h
      · rw [List.mem_singleton.mp h]
        exact hx
    · rw [List.getElem?_append_left (by omega)] at hy
      exact a4 i y hi hy
  have st0 : St [⟨w1, 0⟩, ⟨w2, 0⟩] (mset m1 p (.lst [.tup [.str (tx w1), .int 0], .tup [.str (tx w2), .int 0]])) := ⟨ok2 w2 (.inl hw2), mset_same, fr0⟩
  refine ⟨fun g m3 => ∃ w, (w ∈ nmW ∨ w = [46]) ∧ g = [some (tapeD c s), some (.lst [.str "b", .str "ab", .str "a-9", .str "zz0", .str "q", .str "abcdefghijklmnop", .str "c", .str "b-"]), some (.int r), some (.box p), none] ∧ m3 p = some (.lst ([⟨w1, 0⟩, ⟨w, 0⟩].map syD)) ∧ Fr c s [p] m m3, ?_, ?_⟩
  · simp only [aSeq, aSet, aC, aVar, aOp, aTest, aTru, aAnd, aOr, aNot, aAndV, aOrV, aNotV, aIfE, aNil, aCons, aTup, aLst, aLstB, aUn, aCa, aSl, aNo, aPart, aM, aML, aRet, aRetN, aIf, aDo, aNext, aCont, aBrk, aAsg, aCall, aCallX, aMeth, aFld, aSetFld, aFldAug, aAug, aRaise, aMake, aYes, kName, kCons, kNil, kSub, nth, put, wipeD, asT_b, fAdd_i, fAdd_s, fAdd_t, fAdd_l, fSub_i, fLt_i, fLe_i, fGt_i, fGe_i, fMul_i, fMod_i, fFdiv_i, fPow_i, fNeg_i, fEq_i, fEq_s, fEq_b, fNe_i, fNe_s, fNe_b, fIn_s, fNi_s, fIx_t0, fIx_t1, fIx_t2, fIx_l0, fIx_l1, fSl_s, fSl_t, fSl_l, fLen_t, fLen_l, fInt_i, fAbs_i, fMax_i, fMin_i, fTuple_t, fTuple_l, fList_t, fList_l, fRepS_s, seqOf_t, seqOf_l, truD_b, truD_t, truD_l, kTup_t, fIsN_n, fIsi_non_int, fIsi_non_bool, fIsi_non_str, fIsi_non_tuple, fIsi_non_list, fIsi_bl_int, fIsi_bl_bool, fIsi_bl_str, fIsi_bl_tuple, fIsi_bl_list, fIsi_int_int, fIsi_int_bool, fIsi_int_str, fIsi_int_tuple, fIsi_int_list, fIsi_str_int, fIsi_str_bool, fIsi_str_str, fIsi_str_tuple, fIsi_str_list, fIsi_tup_int, fIsi_tup_bool, fIsi_tup_str, fIsi_tup_tuple, fIsi_tup_list, fIsi_lst_int, fIsi_lst_bool, fIsi_lst_str, fIsi_lst_tuple, fIsi_lst_list, isN, fIx_sy0, fIx_sy1, ite_tt, ite_ff]
    refine ⟨c, s, 4, rfl, fr0.tp, by decide, by decide, fun r2 m2 r20 r24 t2 => ?_⟩
    have fr2 := fr0.go t2
    have hp2 : m2 p = some (.lst [.tup [.str (tx w1), .int 0], .tup [.str (tx w2), .int 0]]) := t2.own mset_same hap
    have hk : ixN [D.tup [.str (tx w1), .int 0], D.tup [.str (tx w2), .int 0]].length 1 = some 1 := rfl
    simp only [aSeq, aSet, aC, aVar, aOp, aTest, aTru, aAnd, aOr, aNot, aAndV, aOrV, aNotV, aIfE, aNil, aCons, aTup, aLst, aLstB, aUn, aCa, aSl, aNo, aPart, aM, aML, aRet, aRetN, aIf, aDo, aNext, aCont, aBrk, aAsg, aCall, aCallX, aMeth, aFld, aSetFld, aFldAug, aAug, aRaise, aMake, aYes, kName, kCons, kNil, kSub, nth, put, wipeD, asT_b, fAdd_i, fAdd_s, fAdd_t, fAdd_l, fSub_i, fLt_i, fLe_i, fGt_i, fGe_i, fMul_i, fMod_i, fFdiv_i, fPow_i, fNeg_i, fEq_i, fEq_s, fEq_b, fNe_i, fNe_s, fNe_b, fIn_s, fNi_s, fIx_t0, fIx_t1, fIx_t2, fIx_l0, fIx_l1, fSl_s, fSl_t, fSl_l, fLen_t, fLen_l, fInt_i, fAbs_i, fMax_i, fMin_i, fTuple_t, fTuple_l, fList_t, fList_l, fRepS_s, seqOf_t, seqOf_l, truD_b, truD_t, truD_l, kTup_t, fIsN_n, fIsi_non_int, fIsi_non_bool, fIsi_non_str, fIsi_non_tuple, fIsi_non_list, fIsi_bl_int, fIsi_bl_bool, fIsi_bl_str, fIsi_bl_tuple, fIsi_bl_list, fIsi_int_int, fIsi_int_bool, fIsi_int_str, fIsi_int_tuple, fIsi_int_list, fIsi_str_int, fIsi_str_bool, fIsi_str_str, fIsi_str_tuple, fIsi_str_list, fIsi_tup_int, fIsi_tup_bool, fIsi_tup_str, fIsi_tup_tuple, fIsi_tup_list, fIsi_lst_int, fIsi_lst_bool, fIsi_lst_str, fIsi_lst_tuple, fIsi_lst_list, isN, fIx_sy0, fIx_sy1, ite_tt, ite_ff, fSetIx_b hp2 hk]
    by_cases h1 : r2 = 1
    · rw [if_pos (decide_eq_true h1)]
      exact ⟨by decide, [46], .inr rfl, by trivial, mset_same, fr2.set (by simp)⟩
    · rw [if_neg (by simp [h1])]
      exact ⟨w2, .inl hw2, by trivial, hp2, fr2⟩
  · rintro g m3 ⟨w, hw, rfl, hp3, fr3⟩
    simp only [aSeq, aSet, aC, aVar, aOp, aTest, aTru, aAnd, aOr, aNot, aAndV, aOrV, aNotV, aIfE, aNil, aCons, aTup, aLst, aLstB, aUn, aCa, aSl, aNo, aPart, aM, aML, aRet, aRetN, aIf, aDo, aNext, aCont, aBrk, aAsg, aCall, aCallX, aMeth, aFld, aSetFld, aFldAug, aAug, aRaise, aMake, aYes, kName, kCons, kNil, kSub, nth, put, wipeD, asT_b, fAdd_i, fAdd_s, fAdd_t, fAdd_l, fSub_i, fLt_i, fLe_i, fGt_i, fGe_i, fMul_i, fMod_i, fFdiv_i, fPow_i, fNeg_i, fEq_i, fEq_s, fEq_b, fNe_i, fNe_s, fNe_b, fIn_s, fNi_s, fIx_t0, fIx_t1, fIx_t2, fIx_l0, fIx_l1, fSl_s, fSl_t, fSl_l, fLen_t, fLen_l, fInt_i, fAbs_i, fMax_i, fMin_i, fTuple_t, fTuple_l, fList_t, fList_l, fRepS_s, seqOf_t, seqOf_l, truD_b, truD_t, truD_l, kTup_t, fIsN_n, fIsi_non_int, fIsi_non_bool, fIsi_non_str, fIsi_non_tuple, fIsi_non_list, fIsi_bl_int, fIsi_bl_bool, fIsi_bl_str, fIsi_bl_tuple, fIsi_bl_list, fIsi_int_int, fIsi_int_bool, fIsi_int_str, fIsi_int_tuple, fIsi_int_list, fIsi_str_int, fIsi_str_bool, fIsi_str_str, fIsi_str_tuple, fIsi_str_list, fIsi_tup_int, fIsi_tup_bool, fIsi_tup_str, fIsi_tup_tuple, fIsi_tup_list, fIsi_lst_int, fIsi_lst_bool, fIsi_lst_str, fIsi_lst_tuple, fIsi_lst_list, isN, fIx_sy0, fIx_sy1, ite_tt, ite_ff]
    refine ⟨c, s, 5, rfl, fr3.tp, by decide, by decide, fun r3 m4 r30 r35 t3 => ?_⟩
    have fr4 := fr3.go t3
    have hp4 := t3.own hp3 hap
    simp only [aSeq, aSet, aC, aVar, aOp, aTest, aTru, aAnd, aOr, aNot, aAndV, aOrV, aNotV, aIfE, aNil, aCons, aTup, aLst, aLstB, aUn, aCa, aSl, aNo, aPart, aM, aML, aRet, aRetN, aIf, aDo, aNext, aCont, aBrk, aAsg, aCall, aCallX, aMeth, aFld, aSetFld, aFldAug, aAug, aRaise, aMake, aYes, kName, kCons, kNil, kSub, nth, put, wipeD, asT_b, fAdd_i, fAdd_s, fAdd_t, fAdd_l, fSub_i, fLt_i, fLe_i, fGt_i, fGe_i, fMul_i, fMod_i, fFdiv_i, fPow_i, fNeg_i, fEq_i, fEq_s, fEq_b, fNe_i, fNe_s, fNe_b, fIn_s, fNi_s, fIx_t0, fIx_t1, fIx_t2, fIx_l0, fIx_l1, fSl_s, fSl_t, fSl_l, fLen_t, fLen_l, fInt_i, fAbs_i, fMax_i, fMin_i, fTuple_t, fTuple_l, fList_t, fList_l, fRepS_s, seqOf_t, seqOf_l, truD_b, truD_t, truD_l, kTup_t, fIsN_n, fIsi_non_int, fIsi_non_bool, fIsi_non_str, fIsi_non_tuple, fIsi_non_list, fIsi_bl_int, fIsi_bl_bool, fIsi_bl_str, fIsi_bl_tuple, fIsi_bl_list, fIsi_int_int, fIsi_int_bool, fIsi_int_str, fIsi_int_tuple, fIsi_int_list, fIsi_str_int, fIsi_str_bool, fIsi_str_str, fIsi_str_tuple, fIsi_str_list, fIsi_tup_int, fIsi_tup_bool, fIsi_tup_str, fIsi_tup_tuple, fIsi_tup_list, fIsi_lst_int, fIsi_lst_bool, fIsi_lst_str, fIsi_lst_tuple, fIsi_lst_list, isN, fIx_sy0, fIx_sy1, ite_tt, ite_ff, aForR]
    refine ⟨0, 1 + r3, rfl, fun _ => rfl, by omega, fun i g m' => ∃ ms x, g = [some (tapeD c s), some (.lst [.str "b", .str "ab", .str "a-9", .str "zz0", .str "q", .str "abcdefghijklmnop", .str "c", .str "b-"]), some (.int r), some (.box p), x] ∧ ms.length = 2 + i ∧ St ms m', ⟨_, _, rfl, rfl, ok2 w hw, hp4, fr4⟩, ?_, ?_⟩
    · rintro i g m5 hi ⟨ms, x, rfl, hlen, st5⟩
      simp only [aSeq, aSet, aC, aVar, aOp, aTest, aTru, aAnd, aOr, aNot, aAndV, aOrV, aNotV, aIfE, aNil, aCons, aTup, aLst, aLstB, aUn, aCa, aSl, aNo, aPart, aM, aML, aRet, aRetN, aIf, aDo, aNext, aCont, aBrk, aAsg, aCall, aCallX, aMeth, aFld, aSetFld, aFldAug, aAug, aRaise, aMake, aYes, kName, kCons, kNil, kSub, nth, put, wipeD, asT_b, fAdd_i, fAdd_s, fAdd_t, fAdd_l, fSub_i, fLt_i, fLe_i, fGt_i, fGe_i, fMul_i, fMod_i, fFdiv_i, fPow_i, fNeg_i, fEq_i, fEq_s, fEq_b, fNe_i, fNe_s, fNe_b, fIn_s, fNi_s, fIx_t0, fIx_t1, fIx_t2, fIx_l0, fIx_l1, fSl_s, fSl_t, fSl_l, fLen_t, fLen_l, fInt_i, fAbs_i, fMax_i, fMin_i, fTuple_t, fTuple_l, fList_t, fList_l, fRepS_s, seqOf_t, seqOf_l, truD_b, truD_t, truD_l, kTup_t, fIsN_n, fIsi_non_int, fIsi_non_bool, fIsi_non_str, fIsi_non_tuple, fIsi_non_list, fIsi_bl_int, fIsi_bl_bool, fIsi_bl_str, fIsi_bl_tuple, fIsi_bl_list, fIsi_int_int, fIsi_int_bool, fIsi_int_str, fIsi_int_tuple, fIsi_int_list, fIsi_str_int, fIsi_str_bool, fIsi_str_str, fIsi_str_tuple, fIsi_str_list, fIsi_tup_int, fIsi_tup_bool, fIsi_tup_str, fIsi_tup_tuple, fIsi_tup_list, fIsi_lst_int, fIsi_lst_bool, fIsi_lst_str, fIsi_lst_tuple, fIsi_lst_list, isN, fIx_sy0, fIx_sy1, ite_tt, ite_ff, isL_b st5.2.1, true_and]
      refine ⟨c, s, 8, rfl, st5.2.2.tp, by decide, by decide, fun r6 m6 r60 r68 t6 => ?_⟩
      obtain ⟨f1, f2⟩ := fmod_in (a := r + r6) (b := 8) (by decide)
      obtain ⟨w3, hw3, e3⟩ := nm_get f1 f2
      simp only [aSeq, aSet, aC, aVar, aOp, aTest, aTru, aAnd, aOr, aNot, aAndV, aOrV, aNotV, aIfE, aNil, aCons, aTup, aLst, aLstB, aUn, aCa, aSl, aNo, aPart, aM, aML, aRet, aRetN, aIf, aDo, aNext, aCont, aBrk, aAsg, aCall, aCallX, aMeth, aFld, aSetFld, aFldAug, aAug, aRaise, aMake, aYes, kName, kCons, kNil, kSub, nth, put, wipeD, asT_b, fAdd_i, fAdd_s, fAdd_t, fAdd_l, fSub_i, fLt_i, fLe_i, fGt_i, fGe_i, fMul_i, fMod_i, fFdiv_i, fPow_i, fNeg_i, fEq_i, fEq_s, fEq_b, fNe_i, fNe_s, fNe_b, fIn_s, fNi_s, fIx_t0, fIx_t1, fIx_t2, fIx_l0, fIx_l1, fSl_s, fSl_t, fSl_l, fLen_t, fLen_l, fInt_i, fAbs_i, fMax_i, fMin_i, fTuple_t, fTuple_l, fList_t, fList_l, fRepS_s, seqOf_t, seqOf_l, truD_b, truD_t, truD_l, kTup_t, fIsN_n, fIsi_non_int, fIsi_non_bool, fIsi_non_str, fIsi_non_tuple, fIsi_non_list, fIsi_bl_int, fIsi_bl_bool, fIsi_bl_str, fIsi_bl_tuple, fIsi_bl_list, fIsi_int_int, fIsi_int_bool, fIsi_int_str, fIsi_int_tuple, fIsi_int_list, fIsi_str_int, fIsi_str_bool, fIsi_str_str, fIsi_str_tuple, fIsi_str_list, fIsi_tup_int, fIsi_tup_bool, fIsi_tup_str, fIsi_tup_tuple, fIsi_tup_list, fIsi_lst_int, fIsi_lst_bool, fIsi_lst_str, fIsi_lst_tuple, fIsi_lst_list, isN, fIx_sy0, fIx_sy1, ite_tt, ite_ff, fIx_l e3]
      refine ⟨by decide, by decide, c, s, 7, rfl, (st5.2.2.go t6).tp, by decide, by decide, fun r7 m7 r70 r77 t7 => ?_⟩
      have e7 : ∃ k : Nat, k ≤ 4 ∧ atI ([.int 1, .int 2, .int 1, .int 2, .int 3, .int 4, .int 0] : List D) r7 = some (.int (k : Int)) := by
        have : r7 = 0 ∨ r7 = 1 ∨ r7 = 2 ∨ r7 = 3 ∨ r7 = 4 ∨ r7 = 5 ∨ r7 = 6 := by omega
        rcases this with rfl | rfl | rfl | rfl | rfl | rfl | rfl
        · exact ⟨1, by decide, rfl⟩
        · exact ⟨2, by decide, rfl⟩
        · exact ⟨1, by decide, rfl⟩
        · exact ⟨2, by decide, rfl⟩
        · exact ⟨3, by decide, rfl⟩
        · exact ⟨4, by decide, rfl⟩
        · exact ⟨0, by decide, rfl⟩
      obtain ⟨k, hk, e7⟩ := e7
      have t67 := t6.trans t7
      have hp7 := t67.own st5.2.1 hap
      have st8 := more (x := ⟨w3, k⟩) st5 ⟨(nmW_ok _ hw3).1, hk, fun z => absurd z (nmW_ok _ hw3).2⟩ (by omega) t67
      simp only [aSeq, aSet, aC, aVar, aOp, aTest, aTru, aAnd, aOr, aNot, aAndV, aOrV, aNotV, aIfE, aNil, aCons, aTup, aLst, aLstB, aUn, aCa, aSl, aNo, aPart, aM, aML, aRet, aRetN, aIf, aDo, aNext, aCont, aBrk, aAsg, aCall, aCallX, aMeth, aFld, aSetFld, aFldAug, aAug, aRaise, aMake, aYes, kName, kCons, kNil, kSub, nth, put, wipeD, asT_b, fAdd_i, fAdd_s, fAdd_t, fAdd_l, fSub_i, fLt_i, fLe_i, fGt_i, fGe_i, fMul_i, fMod_i, fFdiv_i, fPow_i, fNeg_i, fEq_i, fEq_s, fEq_b, fNe_i, fNe_s, fNe_b, fIn_s, fNi_s, fIx_t0, fIx_t1, fIx_t2, fIx_l0, fIx_l1, fSl_s, fSl_t, fSl_l, fLen_t, fLen_l, fInt_i, fAbs_i, fMax_i, fMin_i, fTuple_t, fTuple_l, fList_t, fList_l, fRepS_s, seqOf_t, seqOf_l, truD_b, truD_t, truD_l, kTup_t, fIsN_n, fIsi_non_int, fIsi_non_bool, fIsi_non_str, fIsi_non_tuple, fIsi_non_list, fIsi_bl_int, fIsi_bl_bool, fIsi_bl_str, fIsi_bl_tuple, fIsi_bl_list, fIsi_int_int, fIsi_int_bool, fIsi_int_str, fIsi_int_tuple, fIsi_int_list, fIsi_str_int, fIsi_str_bool, fIsi_str_str, fIsi_str_tuple, fIsi_str_list, fIsi_tup_int, fIsi_tup_bool, fIsi_tup_str, fIsi_tup_tuple, fIsi_tup_list, fIsi_lst_int, fIsi_lst_bool, fIsi_lst_str, fIsi_lst_tuple, fIsi_lst_list, isN, fIx_sy0, fIx_sy1, ite_tt, ite_ff, fIx_l e7, fApp_b hp7]
      refine ⟨by simp, by simp; omega, ms ++ [(⟨w3, k⟩ : Sy)], _, by trivial, by simp; omega, ?_⟩
      rw [show ms.map syD ++ [D.tup [.str (tx w3), .int k]] = (ms ++ [(⟨w3, k⟩ : Sy)]).map syD by simp [syD]]
      exact st8
    · rintro g m5 ⟨ms, x, rfl, hlen, st5⟩
      simp only [aSeq, aSet, aC, aVar, aOp, aTest, aTru, aAnd, aOr, aNot, aAndV, aOrV, aNotV, aIfE, aNil, aCons, aTup, aLst, aLstB, aUn, aCa, aSl, aNo, aPart, aM, aML, aRet, aRetN, aIf, aDo, aNext, aCont, aBrk, aAsg, aCall, aCallX, aMeth, aFld, aSetFld, aFldAug, aAug, aRaise, aMake, aYes, kName, kCons, kNil, kSub, nth, put, wipeD, asT_b, fAdd_i, fAdd_s, fAdd_t, fAdd_l, fSub_i, fLt_i, fLe_i, fGt_i, fGe_i, fMul_i, fMod_i, fFdiv_i, fPow_i, fNeg_i, fEq_i, fEq_s, fEq_b, fNe_i, fNe_s, fNe_b, fIn_s, fNi_s, fIx_t0, fIx_t1, fIx_t2, fIx_l0, fIx_l1, fSl_s, fSl_t, fSl_l, fLen_t, fLen_l, fInt_i, fAbs_i, fMax_i, fMin_i, fTuple_t, fTuple_l, fList_t, fList_l, fRepS_s, seqOf_t, seqOf_l, truD_b, truD_t, truD_l, kTup_t, fIsN_n, fIsi_non_int, fIsi_non_bool, fIsi_non_str, fIsi_non_tuple, fIsi_non_list, fIsi_bl_int, fIsi_bl_bool, fIsi_bl_str, fIsi_bl_tuple, fIsi_bl_list, fIsi_int_int, fIsi_int_bool, fIsi_int_str, fIsi_int_tuple, fIsi_int_list, fIsi_str_int, fIsi_str_bool, fIsi_str_str, fIsi_str_tuple, fIsi_str_list, fIsi_tup_int, fIsi_tup_bool, fIsi_tup_str, fIsi_tup_tuple, fIsi_tup_list, fIsi_lst_int, fIsi_lst_bool, fIsi_lst_str, fIsi_lst_tuple, fIsi_lst_list, isN, fIx_sy0, fIx_sy1, ite_tt, ite_ff]
      refine ⟨_, _, Fz.lst st5.2.1, hq ms _ st5.1 (st5.2.2.del hpm).end_⟩
end AL
set_option maxHeartbeats 2000000
namespace AL
open PySem L2 Evl
variable {K : PySem.W.Frag}
/-! ### where a piece ends -/
def sp_law_far : ASp := fun ds m P _ => ∃ (r : List Sy) (k : Nat), ds = [rowD r, .int k] ∧ r.length ≤ 1000 ∧ okRow (r.drop k) 1 = true ∧ P (.int ((k + far (r.drop k) 1 : Nat) : Int)) m
theorem rd_law_far : ∀ ds m Q W, sp_law_far ds m Q W → b_law_far W { nx := fun _ m' => fzE K Q .non m', rt := fzE K Q } (ds.map some ++ List.replicate (N_law_far.length - ds.length) none) m := by
  rintro ds m Q W ⟨r, k, rfl, hl, hok, hq⟩
  change b_law_far W _ [some (rowD r), some (.int k), none] m
  unfold b_law_far
  simp only [aSeq, aSet, aC, aVar, aOp, aTest, aTru, aAnd, aOr, aNot, aAndV, aOrV, aNotV, aIfE, aNil, aCons, aTup, aLst, aLstB, aUn, aCa, aSl, aNo, aPart, aM, aML, aRet, aRetN, aIf, aDo, aNext, aCont, aBrk, aAsg, aCall, aCallX, aMeth, aFld, aSetFld, aFldAug, aAug, aRaise, aMake, aYes, kName, kCons, kNil, kSub, nth, put, wipeD, asT_b, fAdd_i, fAdd_s, fAdd_t, fAdd_l, fSub_i, fLt_i, fLe_i, fGt_i, fGe_i, fMul_i, fMod_i, fFdiv_i, fPow_i, fNeg_i, fEq_i, fEq_s, fEq_b, fNe_i, fNe_s, fNe_b, fIn_s, fNi_s, fIx_t0, fIx_t1, fIx_t2, fIx_l0, fIx_l1, fSl_s, fSl_t, fSl_l, fLen_t, fLen_l, fInt_i, fAbs_i, fMax_i, fMin_i, fTuple_t, fTuple_l, fList_t, fList_l, fRepS_s, seqOf_t, seqOf_l, truD_b, truD_t, truD_l, kTup_t, fIsN_n, fIsi_non_int, fIsi_non_bool, fIsi_non_str, fIsi_non_tuple, fIsi_non_list, fIsi_bl_int, fIsi_bl_bool, fIsi_bl_str, fIsi_bl_tuple, fIsi_bl_list, fIsi_int_int, fIsi_int_bool, fIsi_int_str, fIsi_int_tuple, fIsi_int_list, fIsi_str_int, fIsi_str_bool, fIsi_str_str, fIsi_str_tuple, fIsi_str_list, fIsi_tup_int, fIsi_tup_bool, fIsi_tup_str, fIsi_tup_tuple, fIsi_tup_list, fIsi_lst_int, fIsi_lst_bool, fIsi_lst_str, fIsi_lst_tuple, fIsi_lst_list, isN, fIx_sy0, fIx_sy1, ite_tt, ite_ff]
  refine ⟨fun n g m' => ∃ (j : Nat) (need : Nat), g = [some (rowD r), some (.int ((k + j : Nat) : Int)), some (.int (need : Int))] ∧ m' = m ∧ n = r.length - (k + j) ∧ k + j ≤ r.length ∧ okRow (r.drop (k + j)) need = true ∧ j + far (r.drop (k + j)) need = far (r.drop k) 1, ⟨r.length - k, 0, 1, rfl, rfl, rfl, ?_, hok, by simp⟩, ?_⟩
  · cases hc : r.drop k with
    | nil =>
      rw [hc] at hok
      cases hok
    | cons s t =>
      have := (at_drop hc).2.2
      omega
  · rintro n g m' ⟨j, need, rfl, rfl, rfl, hle, hok', hf⟩
    cases need with
    | zero =>
      simp only [aSeq, aSet, aC, aVar, aOp, aTest, aTru, aAnd, aOr, aNot, aAndV, aOrV, aNotV, aIfE, aNil, aCons, aTup, aLst, aLstB, aUn, aCa, aSl, aNo, aPart, aM, aML, aRet, aRetN, aIf, aDo, aNext, aCont, aBrk, aAsg, aCall, aCallX, aMeth, aFld, aSetFld, aFldAug, aAug, aRaise, aMake, aYes, kName, kCons, kNil, kSub, nth, put, wipeD, asT_b, fAdd_i, fAdd_s, fAdd_t, fAdd_l, fSub_i, fLt_i, fLe_i, fGt_i, fGe_i, fMul_i, fMod_i, fFdiv_i, fPow_i, fNeg_i, fEq_i, fEq_s, fEq_b, fNe_i, fNe_s, fNe_b, fIn_s, fNi_s, fIx_t0, fIx_t1, fIx_t2, fIx_l0, fIx_l1, fSl_s, fSl_t, fSl_l, fLen_t, fLen_l, fInt_i, fAbs_i, fMax_i, fMin_i, fTuple_t, fTuple_l, fList_t, fList_l, fRepS_s, seqOf_t, seqOf_l, truD_b, truD_t, truD_l, kTup_t, fIsN_n, fIsi_non_int, fIsi_non_bool, fIsi_non_str, fIsi_non_tuple, fIsi_non_list, fIsi_bl_int, fIsi_bl_bool, fIsi_bl_str, fIsi_bl_tuple, fIsi_bl_list, fIsi_int_int, fIsi_int_bool, fIsi_int_str, fIsi_int_tuple, fIsi_int_list, fIsi_str_int, fIsi_str_bool, fIsi_str_str, fIsi_str_tuple, fIsi_str_list, fIsi_tup_int, fIsi_tup_bool, fIsi_tup_str, fIsi_tup_tuple, fIsi_tup_list, fIsi_lst_int, fIsi_lst_bool, fIsi_lst_str, fIsi_lst_tuple, fIsi_lst_list, isN, fIx_sy0, fIx_sy1, ite_tt, ite_ff]
      rw [far_zero] at hf
      have e : j = far (r.drop k) 1 := by omega
      subst e
      exact fzE.of hq
    | succ need =>
      cases hc : r.drop (k + j) with
      | nil =>
        rw [hc] at hok'
        cases hok'
      | cons s t =>
        obtain ⟨hs, hd, hlt⟩ := at_drop hc
        simp only [aSeq, aSet, aC, aVar, aOp, aTest, aTru, aAnd, aOr, aNot, aAndV, aOrV, aNotV, aIfE, aNil, aCons, aTup, aLst, aLstB, aUn, aCa, aSl, aNo, aPart, aM, aML, aRet, aRetN, aIf, aDo, aNext, aCont, aBrk, aAsg, aCall, aCallX, aMeth, aFld, aSetFld, aFldAug, aAug, aRaise, aMake, aYes, kName, kCons, kNil, kSub, nth, put, wipeD, asT_b, fAdd_i, fAdd_s, fAdd_t, fAdd_l, fSub_i, fLt_i, fLe_i, fGt_i, fGe_i, fMul_i, fMod_i, fFdiv_i, fPow_i, fNeg_i, fEq_i, fEq_s, fEq_b, fNe_i, fNe_s, fNe_b, fIn_s, fNi_s, fIx_t0, fIx_t1, fIx_t2, fIx_l0, fIx_l1, fSl_s, fSl_t, fSl_l, fLen_t, fLen_l, fInt_i, fAbs_i, fMax_i, fMin_i, fTuple_t, fTuple_l, fList_t, fList_l, fRepS_s, seqOf_t, seqOf_l, truD_b, truD_t, truD_l, kTup_t, fIsN_n, fIsi_non_int, fIsi_non_bool, fIsi_non_str, fIsi_non_tuple, fIsi_non_list, fIsi_bl_int, fIsi_bl_bool, fIsi_bl_str, fIsi_bl_tuple, fIsi_bl_list, fIsi_int_int, fIsi_int_bool, fIsi_int_str, fIsi_int_tuple, fIsi_int_list, fIsi_str_int, fIsi_str_bool, fIsi_str_str, fIsi_str_tuple, fIsi_str_list, fIsi_tup_int, fIsi_tup_bool, fIsi_tup_str, fIsi_tup_tuple, fIsi_tup_list, fIsi_lst_int, fIsi_lst_bool, fIsi_lst_str, fIsi_lst_tuple, fIsi_lst_list, isN, fIx_sy0, fIx_sy1, ite_tt, ite_ff, fIx_row hs]
        rw [hc] at hok' hf
        rw [if_pos (by simp)]
        have h2 : far (s :: t) (need + 1) = far t (need + s.n) + 1 := rfl
        refine ⟨r.length - (k + (j + 1)), by omega, j + 1, need + s.n, ?_, by trivial, rfl, by omega, ?_, ?_⟩
        · rw [int_eq (show ((k + j : Nat) : Int) + 1 = ((k + (j + 1) : Nat) : Int) by omega), int_eq (show ((need + 1 : Nat) : Int) + (s.n : Int) - 1 = ((need + s.n : Nat) : Int) by omega)]
        · rw [← Nat.add_assoc, hd]
          exact hok'
        · rw [← Nat.add_assoc k j 1, hd]
          omega
/-! ### a tree grown -/
def sp_law_tree : ASp := fun ds m P _ => ∃ (c s : Addr) (ms : List Sy) (n : Nat), ds = [tapeD c s, .lst (ms.map syD), .int n] ∧ TapeIn m c s ∧ MarksOk ms ∧ 1 ≤ n ∧ n ≤ 1000 ∧
  ∀ t m', whole t → t.length ≤ n → (∀ x ∈ t, x ∈ ms) → Tp c s m m' → P (rowD t) m'
theorem marks_get {ms : List Sy} {i : Int} (h0 : 0 ≤ i) (h : i < (ms.length : Int)) : ∃ x, x ∈ ms ∧ ms[i.toNat]? = some x ∧ atI (ms.map syD) i = some (syD x) := by
  have hl : i.toNat < ms.length := by omega
  refine ⟨ms[i.toNat], List.getElem_mem hl, List.getElem?_eq_getElem hl, atI_i (i := i.toNat) (by omega) (row_get (List.getElem?_eq_getElem hl))⟩
theorem rd_law_tree : ∀ ds m Q W, sp_law_tree ds m Q W → b_law_tree sp_law_pick W { nx := fun _ m' => fzE K Q .non m', rt := fzE K Q } (ds.map some ++ List.replicate (N_law_tree.length - ds.length) none) m := by
  rintro ds m Q W ⟨c, s, ms, n, rfl, tp, ok, n1, n2, hq⟩
  change b_law_tree sp_law_pick W _ [some (tapeD c s), some (.lst (ms.map syD)), some (.int n), none, none, none] m
  unfold b_law_tree
  simp only [aSeq, aSet, aC, aVar, aOp, aTest, aTru, aAnd, aOr, aNot, aAndV, aOrV, aNotV, aIfE, aNil, aCons, aTup, aLst, aLstB, aUn, aCa, aSl, aNo, aPart, aM, aML, aRet, aRetN, aIf, aDo, aNext, aCont, aBrk, aAsg, aCall, aCallX, aMeth, aFld, aSetFld, aFldAug, aAug, aRaise, aMake, aYes, kName, kCons, kNil, kSub, nth, put, wipeD, asT_b, fAdd_i, fAdd_s, fAdd_t, fAdd_l, fSub_i, fLt_i, fLe_i, fGt_i, fGe_i, fMul_i, fMod_i, fFdiv_i, fPow_i, fNeg_i, fEq_i, fEq_s, fEq_b, fNe_i, fNe_s, fNe_b, fIn_s, fNi_s, fIx_t0, fIx_t1, fIx_t2, fIx_l0, fIx_l1, fSl_s, fSl_t, fSl_l, fLen_t, fLen_l, fInt_i, fAbs_i, fMax_i, fMin_i, fTuple_t, fTuple_l, fList_t, fList_l, fRepS_s, seqOf_t, seqOf_l, truD_b, truD_t, truD_l, kTup_t, fIsN_n, fIsi_non_int, fIsi_non_bool, fIsi_non_str, fIsi_non_tuple, fIsi_non_list, fIsi_bl_int, fIsi_bl_bool, fIsi_bl_str, fIsi_bl_tuple, fIsi_bl_list, fIsi_int_int, fIsi_int_bool, fIsi_int_str, fIsi_int_tuple, fIsi_int_list, fIsi_str_int, fIsi_str_bool, fIsi_str_str, fIsi_str_tuple, fIsi_str_list, fIsi_tup_int, fIsi_tup_bool, fIsi_tup_str, fIsi_tup_tuple, fIsi_tup_list, fIsi_lst_int, fIsi_lst_bool, fIsi_lst_str, fIsi_lst_tuple, fIsi_lst_list, isN, fIx_sy0, fIx_sy1, ite_tt, ite_ff]
  refine ⟨by decide, fun p hp => ?_⟩
  have hap := tp.apart hp
  refine ⟨fun k g m' => ∃ (t : List Sy) (need : Nat) (x : Option D), g = [some (tapeD c s), some (.lst (ms.map syD)), some (.int n), some (.box p), some (.int (need : Int)), x] ∧ k = n - t.length ∧ t.length + need ≤ n ∧ run t 1 = some need ∧ (∀ y ∈ t, y ∈ ms) ∧ m' p = some (.lst (t.map syD)) ∧ Fr c s [p] m m',
    ⟨n, [], 1, none, rfl, rfl, by simp; omega, rfl, fun _ h => (by cases h), mset_same, (Fr.of (Tp.refl tp)).add hp⟩, ?_⟩
  rintro k g m' ⟨t, need, x, rfl, rfl, hlen, hrun, hgood, hpt, fr⟩
  simp only [aSeq, aSet, aC, aVar, aOp, aTest, aTru, aAnd, aOr, aNot, aAndV, aOrV, aNotV, aIfE, aNil, aCons, aTup, aLst, aLstB, aUn, aCa, aSl, aNo, aPart, aM, aML, aRet, aRetN, aIf, aDo, aNext, aCont, aBrk, aAsg, aCall, aCallX, aMeth, aFld, aSetFld, aFldAug, aAug, aRaise, aMake, aYes, kName, kCons, kNil, kSub, nth, put, wipeD, asT_b, fAdd_i, fAdd_s, fAdd_t, fAdd_l, fSub_i, fLt_i, fLe_i, fGt_i, fGe_i, fMul_i, fMod_i, fFdiv_i, fPow_i, fNeg_i, fEq_i, fEq_s, fEq_b, fNe_i, fNe_s, fNe_b, fIn_s, fNi_s, fIx_t0, fIx_t1, fIx_t2, fIx_l0, fIx_l1, fSl_s, fSl_t, fSl_l, fLen_t, fLen_l, fInt_i, fAbs_i, fMax_i, fMin_i, fTuple_t, fTuple_l, fList_t, fList_l, fRepS_s, seqOf_t, seqOf_l, truD_b, truD_t, truD_l, kTup_t, fIsN_n, fIsi_non_int, fIsi_non_bool, fIsi_non_str, fIsi_non_tuple, fIsi_non_list, fIsi_bl_int, fIsi_bl_bool, fIsi_bl_str, fIsi_bl_tuple, fIsi_bl_list, fIsi_int_int, fIsi_int_bool, fIsi_int_str, fIsi_int_tuple, fIsi_int_list, fIsi_str_int, fIsi_str_bool, fIsi_str_str, fIsi_str_tuple, fIsi_str_list, fIsi_tup_int, fIsi_tup_bool, fIsi_tup_str, fIsi_tup_tuple, fIsi_tup_list, fIsi_lst_int, fIsi_lst_bool, fIsi_lst_str, fIsi_lst_tuple, fIsi_lst_list, isN, fIx_sy0, fIx_sy1, ite_tt, ite_ff]
  cases need with
  | zero =>
    rw [if_neg (by simp)]
    simp only [aSeq, aSet, aC, aVar, aOp, aTest, aTru, aAnd, aOr, aNot, aAndV, aOrV, aNotV, aIfE, aNil, aCons, aTup, aLst, aLstB, aUn, aCa, aSl, aNo, aPart, aM, aML, aRet, aRetN, aIf, aDo, aNext, aCont, aBrk, aAsg, aCall, aCallX, aMeth, aFld, aSetFld, aFldAug, aAug, aRaise, aMake, aYes, kName, kCons, kNil, kSub, nth, put, wipeD, asT_b, fAdd_i, fAdd_s, fAdd_t, fAdd_l, fSub_i, fLt_i, fLe_i, fGt_i, fGe_i, fMul_i, fMod_i, fFdiv_i, fPow_i, fNeg_i, fEq_i, fEq_s, fEq_b, fNe_i, fNe_s, fNe_b, fIn_s, fNi_s, fIx_t0, fIx_t1, fIx_t2, fIx_l0, fIx_l1, fSl_s, fSl_t, fSl_l, fLen_t, fLen_l, fInt_i, fAbs_i, fMax_i, fMin_i, fTuple_t, fTuple_l, fList_t, fList_l, fRepS_s, seqOf_t, seqOf_l, truD_b, truD_t, truD_l, kTup_t, fIsN_n, fIsi_non_int, fIsi_non_bool, fIsi_non_str, fIsi_non_tuple, fIsi_non_list, fIsi_bl_int, fIsi_bl_bool, fIsi_bl_str, fIsi_bl_tuple, fIsi_bl_list, fIsi_int_int, fIsi_int_bool, fIsi_int_str, fIsi_int_tuple, fIsi_int_list, fIsi_str_int, fIsi_str_bool, fIsi_str_str, fIsi_str_tuple, fIsi_str_list, fIsi_tup_int, fIsi_tup_bool, fIsi_tup_str, fIsi_tup_tuple, fIsi_tup_list, fIsi_lst_int, fIsi_lst_bool, fIsi_lst_str, fIsi_lst_tuple, fIsi_lst_list, isN, fIx_sy0, fIx_sy1, ite_tt, ite_ff, fTuple_b hpt]
    exact ⟨_, _, Fz.drop p, hq t _ hrun (by omega) hgood (fr.del hp).end_⟩
  | succ need =>
    rw [if_pos (by simp)]
    rw [List.length_map]
    have hms := ok.two
    have hfew := ok.few
    refine ⟨c, s, ms.length, rfl, fr.tp, by omega, by omega, fun r m1 r0 r1 t1 => ?_⟩
    obtain ⟨y, hy, _, hyi⟩ := marks_get r0 r1
    have hp1 := t1.own hpt hap
    have fr1 := fr.go t1
    simp only [aSeq, aSet, aC, aVar, aOp, aTest, aTru, aAnd, aOr, aNot, aAndV, aOrV, aNotV, aIfE, aNil, aCons, aTup, aLst, aLstB, aUn, aCa, aSl, aNo, aPart, aM, aML, aRet, aRetN, aIf, aDo, aNext, aCont, aBrk, aAsg, aCall, aCallX, aMeth, aFld, aSetFld, aFldAug, aAug, aRaise, aMake, aYes, kName, kCons, kNil, kSub, nth, put, wipeD, asT_b, fAdd_i, fAdd_s, fAdd_t, fAdd_l, fSub_i, fLt_i, fLe_i, fGt_i, fGe_i, fMul_i, fMod_i, fFdiv_i, fPow_i, fNeg_i, fEq_i, fEq_s, fEq_b, fNe_i, fNe_s, fNe_b, fIn_s, fNi_s, fIx_t0, fIx_t1, fIx_t2, fIx_l0, fIx_l1, fSl_s, fSl_t, fSl_l, fLen_t, fLen_l, fInt_i, fAbs_i, fMax_i, fMin_i, fTuple_t, fTuple_l, fList_t, fList_l, fRepS_s, seqOf_t, seqOf_l, truD_b, truD_t, truD_l, kTup_t, fIsN_n, fIsi_non_int, fIsi_non_bool, fIsi_non_str, fIsi_non_tuple, fIsi_non_list, fIsi_bl_int, fIsi_bl_bool, fIsi_bl_str, fIsi_bl_tuple, fIsi_bl_list, fIsi_int_int, fIsi_int_bool, fIsi_int_str, fIsi_int_tuple, fIsi_int_list, fIsi_str_int, fIsi_str_bool, fIsi_str_str, fIsi_str_tuple, fIsi_str_list, fIsi_tup_int, fIsi_tup_bool, fIsi_tup_str, fIsi_tup_tuple, fIsi_tup_list, fIsi_lst_int, fIsi_lst_bool, fIsi_lst_str, fIsi_lst_tuple, fIsi_lst_list, isN, fIx_sy0, fIx_sy1, ite_tt, ite_ff, fIx_l hyi]
    refine ⟨fun g m3 => ∃ z, z ∈ ms ∧ t.length + (need + 1) + z.n ≤ n ∧ g = [some (tapeD c s), some (.lst (ms.map syD)), some (.int n), some (.box p), some (.int ((need + 1 : Nat) : Int)), some (syD z)] ∧ m3 p = some (.lst (t.map syD)) ∧ Fr c s [p] m m3, ?_, ?_⟩
    · simp only [aSeq, aSet, aC, aVar, aOp, aTest, aTru, aAnd, aOr, aNot, aAndV, aOrV, aNotV, aIfE, aNil, aCons, aTup, aLst, aLstB, aUn, aCa, aSl, aNo, aPart, aM, aML, aRet, aRetN, aIf, aDo, aNext, aCont, aBrk, aAsg, aCall, aCallX, aMeth, aFld, aSetFld, aFldAug, aAug, aRaise, aMake, aYes, kName, kCons, kNil, kSub, nth, put, wipeD, asT_b, fAdd_i, fAdd_s, fAdd_t, fAdd_l, fSub_i, fLt_i, fLe_i, fGt_i, fGe_i, fMul_i, fMod_i, fFdiv_i, fPow_i, fNeg_i, fEq_i, fEq_s, fEq_b, fNe_i, fNe_s, fNe_b, fIn_s, fNi_s, fIx_t0, fIx_t1, fIx_t2, fIx_l0, fIx_l1, fSl_s, fSl_t, fSl_l, fLen_t, fLen_l, fInt_i, fAbs_i, fMax_i, fMin_i, fTuple_t, fTuple_l, fList_t, fList_l, fRepS_s, seqOf_t, seqOf_l, truD_b, truD_t, truD_l, kTup_t, fIsN_n, fIsi_non_int, fIsi_non_bool, fIsi_non_str, fIsi_non_tuple, fIsi_non_list, fIsi_bl_int, fIsi_bl_bool, fIsi_bl_str, fIsi_bl_tuple, fIsi_bl_list, fIsi_int_int, fIsi_int_bool, fIsi_int_str, fIsi_int_tuple, fIsi_int_list, fIsi_str_int, fIsi_str_bool, fIsi_str_str, fIsi_str_tuple, fIsi_str_list, fIsi_tup_int, fIsi_tup_bool, fIsi_tup_str, fIsi_tup_tuple, fIsi_tup_list, fIsi_lst_int, fIsi_lst_bool, fIsi_lst_str, fIsi_lst_tuple, fIsi_lst_list, isN, fIx_sy0, fIx_sy1, ite_tt, ite_ff, fLen_b hp1]
      rw [List.length_map]
      by_cases hbig : (n : Int) - t.length - ((need + 1 : Nat) : Int) < (y.n : Int)
      · rw [if_pos (decide_eq_true hbig)]
        refine ⟨c, s, 2, rfl, fr1.tp, by decide, by decide, fun r2 m2 r20 r22 t2 => ?_⟩
        obtain ⟨z, hz, hz2, hzi⟩ := marks_get (ms := ms) r20 (by omega)
        simp only [aSeq, aSet, aC, aVar, aOp, aTest, aTru, aAnd, aOr, aNot, aAndV, aOrV, aNotV, aIfE, aNil, aCons, aTup, aLst, aLstB, aUn, aCa, aSl, aNo, aPart, aM, aML, aRet, aRetN, aIf, aDo, aNext, aCont, aBrk, aAsg, aCall, aCallX, aMeth, aFld, aSetFld, aFldAug, aAug, aRaise, aMake, aYes, kName, kCons, kNil, kSub, nth, put, wipeD, asT_b, fAdd_i, fAdd_s, fAdd_t, fAdd_l, fSub_i, fLt_i, fLe_i, fGt_i, fGe_i, fMul_i, fMod_i, fFdiv_i, fPow_i, fNeg_i, fEq_i, fEq_s, fEq_b, fNe_i, fNe_s, fNe_b, fIn_s, fNi_s, fIx_t0, fIx_t1, fIx_t2, fIx_l0, fIx_l1, fSl_s, fSl_t, fSl_l, fLen_t, fLen_l, fInt_i, fAbs_i, fMax_i, fMin_i, fTuple_t, fTuple_l, fList_t, fList_l, fRepS_s, seqOf_t, seqOf_l, truD_b, truD_t, truD_l, kTup_t, fIsN_n, fIsi_non_int, fIsi_non_bool, fIsi_non_str, fIsi_non_tuple, fIsi_non_list, fIsi_bl_int, fIsi_bl_bool, fIsi_bl_str, fIsi_bl_tuple, fIsi_bl_list, fIsi_int_int, fIsi_int_bool, fIsi_int_str, fIsi_int_tuple, fIsi_int_list, fIsi_str_int, fIsi_str_bool, fIsi_str_str, fIsi_str_tuple, fIsi_str_list, fIsi_tup_int, fIsi_tup_bool, fIsi_tup_str, fIsi_tup_tuple, fIsi_tup_list, fIsi_lst_int, fIsi_lst_bool, fIsi_lst_str, fIsi_lst_tuple, fIsi_lst_list, isN, fIx_sy0, fIx_sy1, ite_tt, ite_ff, fIx_l hzi]
        have z0 : z.n = 0 := ok.leaf r2.toNat z (by omega) hz2
        exact ⟨z, hz, by omega, by trivial, t2.own hp1 hap, fr1.go t2⟩
      · rw [if_neg (by simpa using hbig)]
        exact ⟨y, hy, by omega, by trivial, hp1, fr1⟩
    · rintro g m3 ⟨z, hz, hzn, rfl, hp3, fr3⟩
      simp only [aSeq, aSet, aC, aVar, aOp, aTest, aTru, aAnd, aOr, aNot, aAndV, aOrV, aNotV, aIfE, aNil, aCons, aTup, aLst, aLstB, aUn, aCa, aSl, aNo, aPart, aM, aML, aRet, aRetN, aIf, aDo, aNext, aCont, aBrk, aAsg, aCall, aCallX, aMeth, aFld, aSetFld, aFldAug, aAug, aRaise, aMake, aYes, kName, kCons, kNil, kSub, nth, put, wipeD, asT_b, fAdd_i, fAdd_s, fAdd_t, fAdd_l, fSub_i, fLt_i, fLe_i, fGt_i, fGe_i, fMul_i, fMod_i, fFdiv_i, fPow_i, fNeg_i, fEq_i, fEq_s, fEq_b, fNe_i, fNe_s, fNe_b, fIn_s, fNi_s, fIx_t0, fIx_t1, fIx_t2, fIx_l0, fIx_l1, fSl_s, fSl_t, fSl_l, fLen_t, fLen_l, fInt_i, fAbs_i, fMax_i, fMin_i, fTuple_t, fTuple_l, fList_t, fList_l, fRepS_s, seqOf_t, seqOf_l, truD_b, truD_t, truD_l, kTup_t, fIsN_n, fIsi_non_int, fIsi_non_bool, fIsi_non_str, fIsi_non_tuple, fIsi_non_list, fIsi_bl_int, fIsi_bl_bool, fIsi_bl_str, fIsi_bl_tuple, fIsi_bl_list, fIsi_int_int, fIsi_int_bool, fIsi_int_str, fIsi_int_tuple, fIsi_int_list, fIsi_str_int, fIsi_str_bool, fIsi_str_str, fIsi_str_tuple, fIsi_str_list, fIsi_tup_int, fIsi_tup_bool, fIsi_tup_str, fIsi_tup_tuple, fIsi_tup_list, fIsi_lst_int, fIsi_lst_bool, fIsi_lst_str, fIsi_lst_tuple, fIsi_lst_list, isN, fIx_sy0, fIx_sy1, ite_tt, ite_ff, isL_b hp3, fApp_b hp3, true_and]
      rw [List.length_map]
      refine ⟨by omega, n - (t.length + 1), by omega, t ++ [z], need + z.n, some (syD z), ?_, by simp, by simp; omega, ?_, ?_, ?_, fr3.set (by simp)⟩
      · rw [int_eq (show ((need + 1 : Nat) : Int) - 1 + (z.n : Int) = ((need + z.n : Nat) : Int) by omega)]
      · rw [run_app, hrun] <;> rfl
      · intro w hw
        rcases List.mem_append.mp hw with h | h
        · exact hgood w h
        · rw [List.mem_singleton.mp h]
          exact hz
      · rw [mset_same, List.map_append] <;> rfl
end AL
set_option maxHeartbeats 2000000
namespace AL
open PySem L2 Evl
variable {K : PySem.W.Frag}
/-! ### the same data -/
def sp_law_same : ASp := fun ds m P _ => ∃ x : D, ds = [x, x] ∧ pure? x = true ∧ dsize x ≤ 90000 ∧ P (.bl true) m
def pairs (xs : List D) : List D := xs.map fun x => .tup [x, x]
theorem tyOf_pure {m : Mu} {x : D} (h : pure? x = true) : (∃ ds, x = .tup ds) ∨ x = .non ∨ (∃ b, x = .bl b) ∨ (∃ i, x = .int i) ∨ (∃ z, x = .str z) := by
  cases x <;> first | (cases h; done) | simp
theorem rd_law_same : ∀ ds m Q W, sp_law_same ds m Q W → b_law_same W { nx := fun _ m' => fzE K Q .non m', rt := fzE K Q } (ds.map some ++ List.replicate (N_law_same.length - ds.length) none) m := by
  rintro ds m Q W ⟨x, rfl, hp, hsz, hq⟩
  change b_law_same W _ [some x, some x, none, none, none, none, none] m
  unfold b_law_same
  simp only [aSeq, aSet, aC, aVar, aOp, aTest, aTru, aAnd, aOr, aNot, aAndV, aOrV, aNotV, aIfE, aNil, aCons, aTup, aLst, aLstB, aUn, aCa, aSl, aNo, aPart, aM, aML, aRet, aRetN, aIf, aDo, aNext, aCont, aBrk, aAsg, aCall, aCallX, aMeth, aFld, aSetFld, aFldAug, aAug, aRaise, aMake, aYes, kName, kCons, kNil, kSub, nth, put, wipeD, asT_b, fAdd_i, fAdd_s, fAdd_t, fAdd_l, fSub_i, fLt_i, fLe_i, fGt_i, fGe_i, fMul_i, fMod_i, fFdiv_i, fPow_i, fNeg_i, fEq_i, fEq_s, fEq_b, fNe_i, fNe_s, fNe_b, fIn_s, fNi_s, fIx_t0, fIx_t1, fIx_t2, fIx_l0, fIx_l1, fSl_s, fSl_t, fSl_l, fLen_t, fLen_l, fInt_i, fAbs_i, fMax_i, fMin_i, fTuple_t, fTuple_l, fList_t, fList_l, fRepS_s, seqOf_t, seqOf_l, truD_b, truD_t, truD_l, kTup_t, fIsN_n, fIsi_non_int, fIsi_non_bool, fIsi_non_str, fIsi_non_tuple, fIsi_non_list, fIsi_bl_int, fIsi_bl_bool, fIsi_bl_str, fIsi_bl_tuple, fIsi_bl_list, fIsi_int_int, fIsi_int_bool, fIsi_int_str, fIsi_int_tuple, fIsi_int_list, fIsi_str_int, fIsi_str_bool, fIsi_str_str, fIsi_str_tuple, fIsi_str_list, fIsi_tup_int, fIsi_tup_bool, fIsi_tup_str, fIsi_tup_tuple, fIsi_tup_list, fIsi_lst_int, fIsi_lst_bool, fIsi_lst_str, fIsi_lst_tuple, fIsi_lst_list, isN, fIx_sy0, fIx_sy1, ite_tt, ite_ff]
  refine ⟨by simp, by simp, fun p hpn => ?_⟩
  refine ⟨fun k g m' => ∃ (xs : List D) (a b c d : Option D), g = [some x, some x, some (.box p), a, b, c, d] ∧ m' = mset m p (.lst (pairs xs)) ∧ pures? xs = true ∧ k = dsizes xs ∧ dsizes xs ≤ dsize x, ⟨_, [x], none, none, none, none, rfl, rfl, by simp [pures?, hp], rfl, by simp [dsizes]⟩, ?_⟩
  rintro k g m' ⟨xs, a, b, c, d, rfl, rfl, hpu, rfl, hle⟩
  have hmp : mset m p (.lst (pairs xs)) p = some (.lst (pairs xs)) := mset_same
  simp only [aSeq, aSet, aC, aVar, aOp, aTest, aTru, aAnd, aOr, aNot, aAndV, aOrV, aNotV, aIfE, aNil, aCons, aTup, aLst, aLstB, aUn, aCa, aSl, aNo, aPart, aM, aML, aRet, aRetN, aIf, aDo, aNext, aCont, aBrk, aAsg, aCall, aCallX, aMeth, aFld, aSetFld, aFldAug, aAug, aRaise, aMake, aYes, kName, kCons, kNil, kSub, nth, put, wipeD, asT_b, fAdd_i, fAdd_s, fAdd_t, fAdd_l, fSub_i, fLt_i, fLe_i, fGt_i, fGe_i, fMul_i, fMod_i, fFdiv_i, fPow_i, fNeg_i, fEq_i, fEq_s, fEq_b, fNe_i, fNe_s, fNe_b, fIn_s, fNi_s, fIx_t0, fIx_t1, fIx_t2, fIx_l0, fIx_l1, fSl_s, fSl_t, fSl_l, fLen_t, fLen_l, fInt_i, fAbs_i, fMax_i, fMin_i, fTuple_t, fTuple_l, fList_t, fList_l, fRepS_s, seqOf_t, seqOf_l, truD_b, truD_t, truD_l, kTup_t, fIsN_n, fIsi_non_int, fIsi_non_bool, fIsi_non_str, fIsi_non_tuple, fIsi_non_list, fIsi_bl_int, fIsi_bl_bool, fIsi_bl_str, fIsi_bl_tuple, fIsi_bl_list, fIsi_int_int, fIsi_int_bool, fIsi_int_str, fIsi_int_tuple, fIsi_int_list, fIsi_str_int, fIsi_str_bool, fIsi_str_str, fIsi_str_tuple, fIsi_str_list, fIsi_tup_int, fIsi_tup_bool, fIsi_tup_str, fIsi_tup_tuple, fIsi_tup_list, fIsi_lst_int, fIsi_lst_bool, fIsi_lst_str, fIsi_lst_tuple, fIsi_lst_list, isN, fIx_sy0, fIx_sy1, ite_tt, ite_ff, fLen_b hmp]
  by_cases hne : xs = []
  · subst hne
    rw [if_neg (by simp [pairs])]
    exact ⟨_, _, Fz.drop p, by rw [mdel_mset hpn]; exact hq⟩
  · obtain ⟨ini, y, rfl⟩ := ends_in hne
    have hlen : (0 : Int) < ((pairs (ini ++ [y])).length : Int) := by simp [pairs]
    rw [if_pos (decide_eq_true hlen)]
    have hpop : pairs (ini ++ [y]) = pairs ini ++ [.tup [y, y]] := by simp [pairs]
    rw [pures_app, Bool.and_eq_true_iff] at hpu
    rw [dsizes_app] at hle
    have hy : pure? y = true := by simpa [pures?] using hpu.2
    have hsy : dsizes [y] = dsize y := by simp [dsizes]
    have h1 : 1 ≤ dsize y := by cases y <;> simp [dsize]
    simp only [aSeq, aSet, aC, aVar, aOp, aTest, aTru, aAnd, aOr, aNot, aAndV, aOrV, aNotV, aIfE, aNil, aCons, aTup, aLst, aLstB, aUn, aCa, aSl, aNo, aPart, aM, aML, aRet, aRetN, aIf, aDo, aNext, aCont, aBrk, aAsg, aCall, aCallX, aMeth, aFld, aSetFld, aFldAug, aAug, aRaise, aMake, aYes, kName, kCons, kNil, kSub, nth, put, wipeD, asT_b, fAdd_i, fAdd_s, fAdd_t, fAdd_l, fSub_i, fLt_i, fLe_i, fGt_i, fGe_i, fMul_i, fMod_i, fFdiv_i, fPow_i, fNeg_i, fEq_i, fEq_s, fEq_b, fNe_i, fNe_s, fNe_b, fIn_s, fNi_s, fIx_t0, fIx_t1, fIx_t2, fIx_l0, fIx_l1, fSl_s, fSl_t, fSl_l, fLen_t, fLen_l, fInt_i, fAbs_i, fMax_i, fMin_i, fTuple_t, fTuple_l, fList_t, fList_l, fRepS_s, seqOf_t, seqOf_l, truD_b, truD_t, truD_l, kTup_t, fIsN_n, fIsi_non_int, fIsi_non_bool, fIsi_non_str, fIsi_non_tuple, fIsi_non_list, fIsi_bl_int, fIsi_bl_bool, fIsi_bl_str, fIsi_bl_tuple, fIsi_bl_list, fIsi_int_int, fIsi_int_bool, fIsi_int_str, fIsi_int_tuple, fIsi_int_list, fIsi_str_int, fIsi_str_bool, fIsi_str_str, fIsi_str_tuple, fIsi_str_list, fIsi_tup_int, fIsi_tup_bool, fIsi_tup_str, fIsi_tup_tuple, fIsi_tup_list, fIsi_lst_int, fIsi_lst_bool, fIsi_lst_str, fIsi_lst_tuple, fIsi_lst_list, isN, fIx_sy0, fIx_sy1, ite_tt, ite_ff, isL_b hmp, fPop_b hmp hpop, true_and]
    -- what stands at p behind this turn
    have last : ∀ (xs : List D) (e1 e2 e3 e4 : Option D) (m2 : Mu), m2 = mset m p (.lst (pairs xs)) → pures? xs = true → dsizes xs < dsizes (ini ++ [y]) → ∃ n', n' < dsizes (ini ++ [y]) ∧ ∃ (xs' : List D) (a b c d : Option D),
        [some x, some x, some (.box p), e1, e2, e3, e4] = [some x, some x, some (.box p), a, b, c, d] ∧ m2 = mset m p (.lst (pairs xs')) ∧ pures? xs' = true ∧ n' = dsizes xs' ∧ dsizes xs' ≤ dsize x := fun xs e1 e2 e3 e4 m2 h1 h2 h3 =>
      ⟨_, h3, xs, e1, e2, e3, e4, rfl, h1, h2, rfl, by rw [dsizes_app] at h3; omega⟩
    have small : dsizes ini < dsizes (ini ++ [y]) := by rw [dsizes_app]; omega
    rcases tyOf_pure (m := m) hy with ⟨ds, rfl⟩ | rfl | ⟨q, rfl⟩ | ⟨q, rfl⟩ | ⟨q, rfl⟩
    · simp only [aSeq, aSet, aC, aVar, aOp, aTest, aTru, aAnd, aOr, aNot, aAndV, aOrV, aNotV, aIfE, aNil, aCons, aTup, aLst, aLstB, aUn, aCa, aSl, aNo, aPart, aM, aML, aRet, aRetN, aIf, aDo, aNext, aCont, aBrk, aAsg, aCall, aCallX, aMeth, aFld, aSetFld, aFldAug, aAug, aRaise, aMake, aYes, kName, kCons, kNil, kSub, nth, put, wipeD, asT_b, fAdd_i, fAdd_s, fAdd_t, fAdd_l, fSub_i, fLt_i, fLe_i, fGt_i, fGe_i, fMul_i, fMod_i, fFdiv_i, fPow_i, fNeg_i, fEq_i, fEq_s, fEq_b, fNe_i, fNe_s, fNe_b, fIn_s, fNi_s, fIx_t0, fIx_t1, fIx_t2, fIx_l0, fIx_l1, fSl_s, fSl_t, fSl_l, fLen_t, fLen_l, fInt_i, fAbs_i, fMax_i, fMin_i, fTuple_t, fTuple_l, fList_t, fList_l, fRepS_s, seqOf_t, seqOf_l, truD_b, truD_t, truD_l, kTup_t, fIsN_n, fIsi_non_int, fIsi_non_bool, fIsi_non_str, fIsi_non_tuple, fIsi_non_list, fIsi_bl_int, fIsi_bl_bool, fIsi_bl_str, fIsi_bl_tuple, fIsi_bl_list, fIsi_int_int, fIsi_int_bool, fIsi_int_str, fIsi_int_tuple, fIsi_int_list, fIsi_str_int, fIsi_str_bool, fIsi_str_str, fIsi_str_tuple, fIsi_str_list, fIsi_tup_int, fIsi_tup_bool, fIsi_tup_str, fIsi_tup_tuple, fIsi_tup_list, fIsi_lst_int, fIsi_lst_bool, fIsi_lst_str, fIsi_lst_tuple, fIsi_lst_list, isN, fIx_sy0, fIx_sy1, ite_tt, ite_ff]
      refine cut_plain ?_
      simp only [aSeq, aSet, aC, aVar, aOp, aTest, aTru, aAnd, aOr, aNot, aAndV, aOrV, aNotV, aIfE, aNil, aCons, aTup, aLst, aLstB, aUn, aCa, aSl, aNo, aPart, aM, aML, aRet, aRetN, aIf, aDo, aNext, aCont, aBrk, aAsg, aCall, aCallX, aMeth, aFld, aSetFld, aFldAug, aAug, aRaise, aMake, aYes, kName, kCons, kNil, kSub, nth, put, wipeD, asT_b, fAdd_i, fAdd_s, fAdd_t, fAdd_l, fSub_i, fLt_i, fLe_i, fGt_i, fGe_i, fMul_i, fMod_i, fFdiv_i, fPow_i, fNeg_i, fEq_i, fEq_s, fEq_b, fNe_i, fNe_s, fNe_b, fIn_s, fNi_s, fIx_t0, fIx_t1, fIx_t2, fIx_l0, fIx_l1, fSl_s, fSl_t, fSl_l, fLen_t, fLen_l, fInt_i, fAbs_i, fMax_i, fMin_i, fTuple_t, fTuple_l, fList_t, fList_l, fRepS_s, seqOf_t, seqOf_l, truD_b, truD_t, truD_l, kTup_t, fIsN_n, fIsi_non_int, fIsi_non_bool, fIsi_non_str, fIsi_non_tuple, fIsi_non_list, fIsi_bl_int, fIsi_bl_bool, fIsi_bl_str, fIsi_bl_tuple, fIsi_bl_list, fIsi_int_int, fIsi_int_bool, fIsi_int_str, fIsi_int_tuple, fIsi_int_list, fIsi_str_int, fIsi_str_bool, fIsi_str_str, fIsi_str_tuple, fIsi_str_list, fIsi_tup_int, fIsi_tup_bool, fIsi_tup_str, fIsi_tup_tuple, fIsi_tup_list, fIsi_lst_int, fIsi_lst_bool, fIsi_lst_str, fIsi_lst_tuple, fIsi_lst_list, isN, fIx_sy0, fIx_sy1, ite_tt, ite_ff]
      simp only [decide_true, Bool.not_true, ite_ff, aForR, aCons, aNil, aVar, nth, aCa, fLen_t]
      have hds : pures? ds = true := hy
      have hdz : dsize (.tup ds) = dsizes ds + 1 := rfl
      have hdl := len_dsizes ds
      refine ⟨0, ds.length, rfl, fun _ => rfl, by omega, fun i g m' => i ≤ ds.length ∧ ∃ e1, g = [some x, some x, some (.box p), some (.tup [.tup ds, .tup ds]), some (.tup ds), some (.tup ds), e1] ∧ m' = mset m p (.lst (pairs (ini ++ ds.take i))), ⟨Nat.zero_le _, _, rfl, ?_⟩, ?_, ?_⟩
      · rw [mset_mset]
        simp
      · rintro i g m' hi ⟨hi2, e1, rfl, rfl⟩
        have hlt : i < ds.length := by omega
        have hat : atI ds ((0 : Int) + (i : Int)) = some ds[i] := by
          rw [Int.zero_add]
          exact atI_nn (List.getElem?_eq_getElem hlt)
        simp only [aSeq, aSet, aC, aVar, aOp, aTest, aTru, aAnd, aOr, aNot, aAndV, aOrV, aNotV, aIfE, aNil, aCons, aTup, aLst, aLstB, aUn, aCa, aSl, aNo, aPart, aM, aML, aRet, aRetN, aIf, aDo, aNext, aCont, aBrk, aAsg, aCall, aCallX, aMeth, aFld, aSetFld, aFldAug, aAug, aRaise, aMake, aYes, kName, kCons, kNil, kSub, nth, put, wipeD, asT_b, fAdd_i, fAdd_s, fAdd_t, fAdd_l, fSub_i, fLt_i, fLe_i, fGt_i, fGe_i, fMul_i, fMod_i, fFdiv_i, fPow_i, fNeg_i, fEq_i, fEq_s, fEq_b, fNe_i, fNe_s, fNe_b, fIn_s, fNi_s, fIx_t0, fIx_t1, fIx_t2, fIx_l0, fIx_l1, fSl_s, fSl_t, fSl_l, fLen_t, fLen_l, fInt_i, fAbs_i, fMax_i, fMin_i, fTuple_t, fTuple_l, fList_t, fList_l, fRepS_s, seqOf_t, seqOf_l, truD_b, truD_t, truD_l, kTup_t, fIsN_n, fIsi_non_int, fIsi_non_bool, fIsi_non_str, fIsi_non_tuple, fIsi_non_list, fIsi_bl_int, fIsi_bl_bool, fIsi_bl_str, fIsi_bl_tuple, fIsi_bl_list, fIsi_int_int, fIsi_int_bool, fIsi_int_str, fIsi_int_tuple, fIsi_int_list, fIsi_str_int, fIsi_str_bool, fIsi_str_str, fIsi_str_tuple, fIsi_str_list, fIsi_tup_int, fIsi_tup_bool, fIsi_tup_str, fIsi_tup_tuple, fIsi_tup_list, fIsi_lst_int, fIsi_lst_bool, fIsi_lst_str, fIsi_lst_tuple, fIsi_lst_list, isN, fIx_sy0, fIx_sy1, ite_tt, ite_ff, isL_b mset_same, fIx_t hat, fApp_b mset_same, true_and]
        refine ⟨by simp, ?_, hlt, _, rfl, ?_⟩
        · have h2 := len_dsizes ini
          have h3 : (pairs (ini ++ ds.take i)).length = ini.length + min i ds.length := by
            unfold pairs
            rw [List.length_map, List.length_append, List.length_take]
          omega
        · rw [mset_mset]
          have e : pairs (ini ++ ds.take i) ++ [.tup [ds[i], ds[i]]] = pairs (ini ++ ds.take (i + 1)) := by
            rw [List.take_succ, List.getElem?_eq_getElem hlt]
            unfold pairs
            rw [List.map_append, List.map_append, List.map_append, List.append_assoc]
            rfl
          rw [e]
      · rintro g m' ⟨hi2, e1, rfl, rfl⟩
        have e : ((ds.length : Int) - 0).toNat = ds.length := by omega
        rw [e, List.take_length]
        refine last (ini ++ ds) _ _ _ _ _ rfl ?_ ?_
        · rw [pures_app, hpu.1, hds] <;> rfl
        · rw [dsizes_app, dsizes_app, hsy, hdz]
          omega
    · simp only [aSeq, aSet, aC, aVar, aOp, aTest, aTru, aAnd, aOr, aNot, aAndV, aOrV, aNotV, aIfE, aNil, aCons, aTup, aLst, aLstB, aUn, aCa, aSl, aNo, aPart, aM, aML, aRet, aRetN, aIf, aDo, aNext, aCont, aBrk, aAsg, aCall, aCallX, aMeth, aFld, aSetFld, aFldAug, aAug, aRaise, aMake, aYes, kName, kCons, kNil, kSub, nth, put, wipeD, asT_b, fAdd_i, fAdd_s, fAdd_t, fAdd_l, fSub_i, fLt_i, fLe_i, fGt_i, fGe_i, fMul_i, fMod_i, fFdiv_i, fPow_i, fNeg_i, fEq_i, fEq_s, fEq_b, fNe_i, fNe_s, fNe_b, fIn_s, fNi_s, fIx_t0, fIx_t1, fIx_t2, fIx_l0, fIx_l1, fSl_s, fSl_t, fSl_l, fLen_t, fLen_l, fInt_i, fAbs_i, fMax_i, fMin_i, fTuple_t, fTuple_l, fList_t, fList_l, fRepS_s, seqOf_t, seqOf_l, truD_b, truD_t, truD_l, kTup_t, fIsN_n, fIsi_non_int, fIsi_non_bool, fIsi_non_str, fIsi_non_tuple, fIsi_non_list, fIsi_bl_int, fIsi_bl_bool, fIsi_bl_str, fIsi_bl_tuple, fIsi_bl_list, fIsi_int_int, fIsi_int_bool, fIsi_int_str, fIsi_int_tuple, fIsi_int_list, fIsi_str_int, fIsi_str_bool, fIsi_str_str, fIsi_str_tuple, fIsi_str_list, fIsi_tup_int, fIsi_tup_bool, fIsi_tup_str, fIsi_tup_tuple, fIsi_tup_list, fIsi_lst_int, fIsi_lst_bool, fIsi_lst_str, fIsi_lst_tuple, fIsi_lst_list, isN, fIx_sy0, fIx_sy1, ite_tt, ite_ff]
      simp only [reduceCtorEq, decide_true, decide_false, if_false, if_true, Bool.not_true, ite_ff, ite_tt, Bool.false_eq_true]
      exact last ini _ _ _ _ _ (by rw [mset_mset]) hpu.1 small
    · simp only [aSeq, aSet, aC, aVar, aOp, aTest, aTru, aAnd, aOr, aNot, aAndV, aOrV, aNotV, aIfE, aNil, aCons, aTup, aLst, aLstB, aUn, aCa, aSl, aNo, aPart, aM, aML, aRet, aRetN, aIf, aDo, aNext, aCont, aBrk, aAsg, aCall, aCallX, aMeth, aFld, aSetFld, aFldAug, aAug, aRaise, aMake, aYes, kName, kCons, kNil, kSub, nth, put, wipeD, asT_b, fAdd_i, fAdd_s, fAdd_t, fAdd_l, fSub_i, fLt_i, fLe_i, fGt_i, fGe_i, fMul_i, fMod_i, fFdiv_i, fPow_i, fNeg_i, fEq_i, fEq_s, fEq_b, fNe_i, fNe_s, fNe_b, fIn_s, fNi_s, fIx_t0, fIx_t1, fIx_t2, fIx_l0, fIx_l1, fSl_s, fSl_t, fSl_l, fLen_t, fLen_l, fInt_i, fAbs_i, fMax_i, fMin_i, fTuple_t, fTuple_l, fList_t, fList_l, fRepS_s, seqOf_t, seqOf_l, truD_b, truD_t, truD_l, kTup_t, fIsN_n, fIsi_non_int, fIsi_non_bool, fIsi_non_str, fIsi_non_tuple, fIsi_non_list, fIsi_bl_int, fIsi_bl_bool, fIsi_bl_str, fIsi_bl_tuple, fIsi_bl_list, fIsi_int_int, fIsi_int_bool, fIsi_int_str, fIsi_int_tuple, fIsi_int_list, fIsi_str_int, fIsi_str_bool, fIsi_str_str, fIsi_str_tuple, fIsi_str_list, fIsi_tup_int, fIsi_tup_bool, fIsi_tup_str, fIsi_tup_tuple, fIsi_tup_list, fIsi_lst_int, fIsi_lst_bool, fIsi_lst_str, fIsi_lst_tuple, fIsi_lst_list, isN, fIx_sy0, fIx_sy1, ite_tt, ite_ff]
      simp only [reduceCtorEq, decide_true, decide_false, if_false, if_true, Bool.not_true, ite_ff, ite_tt, Bool.false_eq_true]
      exact last ini _ _ _ _ _ (by rw [mset_mset]) hpu.1 small
    · simp only [aSeq, aSet, aC, aVar, aOp, aTest, aTru, aAnd, aOr, aNot, aAndV, aOrV, aNotV, aIfE, aNil, aCons, aTup, aLst, aLstB, aUn, aCa, aSl, aNo, aPart, aM, aML, aRet, aRetN, aIf, aDo, aNext, aCont, aBrk, aAsg, aCall, aCallX, aMeth, aFld, aSetFld, aFldAug, aAug, aRaise, aMake, aYes, kName, kCons, kNil, kSub, nth, put, wipeD, asT_b, fAdd_i, fAdd_s, fAdd_t, fAdd_l, fSub_i, fLt_i, fLe_i, fGt_i, fGe_i, fMul_i, fMod_i, fFdiv_i, fPow_i, fNeg_i, fEq_i, fEq_s, fEq_b, fNe_i, fNe_s, fNe_b, fIn_s, fNi_s, fIx_t0, fIx_t1, fIx_t2, fIx_l0, fIx_l1, fSl_s, fSl_t, fSl_l, fLen_t, fLen_l, fInt_i, fAbs_i, fMax_i, fMin_i, fTuple_t, fTuple_l, fList_t, fList_l, fRepS_s, seqOf_t, seqOf_l, truD_b, truD_t, truD_l, kTup_t, fIsN_n, fIsi_non_int, fIsi_non_bool, fIsi_non_str, fIsi_non_tuple, fIsi_non_list, fIsi_bl_int, fIsi_bl_bool, fIsi_bl_str, fIsi_bl_tuple, fIsi_bl_list, fIsi_int_int, fIsi_int_bool, fIsi_int_str, fIsi_int_tuple, fIsi_int_list, fIsi_str_int, fIsi_str_bool, fIsi_str_str, fIsi_str_tuple, fIsi_str_list, fIsi_tup_int, fIsi_tup_bool, fIsi_tup_str, fIsi_tup_tuple, fIsi_tup_list, fIsi_lst_int, fIsi_lst_bool, fIsi_lst_str, fIsi_lst_tuple, fIsi_lst_list, isN, fIx_sy0, fIx_sy1, ite_tt, ite_ff]
      simp only [reduceCtorEq, decide_true, decide_false, if_false, if_true, Bool.not_true, ite_ff, ite_tt, Bool.false_eq_true]
      exact last ini _ _ _ _ _ (by rw [mset_mset]) hpu.1 small
    · simp only [aSeq, aSet, aC, aVar, aOp, aTest, aTru, aAnd, aOr, aNot, aAndV, aOrV, aNotV, aIfE, aNil, aCons, aTup, aLst, aLstB, aUn, aCa, aSl, aNo, aPart, aM, aML, aRet, aRetN, aIf, aDo, aNext, aCont, aBrk, aAsg, aCall, aCallX, aMeth, aFld, aSetFld, aFldAug, aAug, aRaise, aMake, aYes, kName, kCons, kNil, kSub, nth, put, wipeD, asT_b, fAdd_i, fAdd_s, fAdd_t, fAdd_l, fSub_i, fLt_i, fLe_i, fGt_i, fGe_i, fMul_i, fMod_i, fFdiv_i, fPow_i, fNeg_i, fEq_i, fEq_s, fEq_b, fNe_i, fNe_s, fNe_b, fIn_s, fNi_s, fIx_t0, fIx_t1, fIx_t2, fIx_l0, fIx_l1, fSl_s, fSl_t, fSl_l, fLen_t, fLen_l, fInt_i, fAbs_i, fMax_i, fMin_i, fTuple_t, fTuple_l, fList_t, fList_l, fRepS_s, seqOf_t, seqOf_l, truD_b, truD_t, truD_l, kTup_t, fIsN_n, fIsi_non_int, fIsi_non_bool, fIsi_non_str, fIsi_non_tuple, fIsi_non_list, fIsi_bl_int, fIsi_bl_bool, fIsi_bl_str, fIsi_bl_tuple, fIsi_bl_list, fIsi_int_int, fIsi_int_bool, fIsi_int_str, fIsi_int_tuple, fIsi_int_list, fIsi_str_int, fIsi_str_bool, fIsi_str_str, fIsi_str_tuple, fIsi_str_list, fIsi_tup_int, fIsi_tup_bool, fIsi_tup_str, fIsi_tup_tuple, fIsi_tup_list, fIsi_lst_int, fIsi_lst_bool, fIsi_lst_str, fIsi_lst_tuple, fIsi_lst_list, isN, fIx_sy0, fIx_sy1, ite_tt, ite_ff]
      simp only [reduceCtorEq, decide_true, decide_false, if_false, if_true, Bool.not_true, ite_ff, ite_tt, Bool.false_eq_true]
      exact last ini _ _ _ _ _ (by rw [mset_mset]) hpu.1 small
end AL
set_option maxHeartbeats 4000000
namespace AL
open PySem L2 Evl
variable {K : PySem.W.Frag}
/-! ### what is a tree -/
def top? : D → Bool
  | .box _ => false
  | .ty _ => false
  | .scr _ => false
  | _ => true
def isNum : D → Bool
  | .int i => decide (0 ≤ i)
  | _ => false
def sp_is_number : ASp := fun ds m P _ => ∃ d, ds = [d] ∧ top? d = true ∧ P (.bl (isNum d)) m
theorem rd_is_number : ∀ ds m Q W, sp_is_number ds m Q W → b_is_number W { nx := fun _ m' => fzE K Q .non m', rt := fzE K Q } (ds.map some ++ List.replicate (N_is_number.length - ds.length) none) m := by
  rintro ds m Q W ⟨d, rfl, ht, hq⟩
  change b_is_number W _ [some d] m
  unfold b_is_number
  have hq := fzE.of (K := K) hq
  cases d <;> first | (cases ht; done) | skip
  all_goals simp only [aSeq, aSet, aC, aVar, aOp, aTest, aTru, aAnd, aOr, aNot, aAndV, aOrV, aNotV, aIfE, aNil, aCons, aTup, aLst, aLstB, aUn, aCa, aSl, aNo, aPart, aM, aML, aRet, aRetN, aIf, aDo, aNext, aCont, aBrk, aAsg, aCall, aCallX, aMeth, aFld, aSetFld, aFldAug, aAug, aRaise, aMake, aYes, kName, kCons, kNil, kSub, nth, put, wipeD, asT_b, fAdd_i, fAdd_s, fAdd_t, fAdd_l, fSub_i, fLt_i, fLe_i, fGt_i, fGe_i, fMul_i, fMod_i, fFdiv_i, fPow_i, fNeg_i, fEq_i, fEq_s, fEq_b, fNe_i, fNe_s, fNe_b, fIn_s, fNi_s, fIx_t0, fIx_t1, fIx_t2, fIx_l0, fIx_l1, fSl_s, fSl_t, fSl_l, fLen_t, fLen_l, fInt_i, fAbs_i, fMax_i, fMin_i, fTuple_t, fTuple_l, fList_t, fList_l, fRepS_s, seqOf_t, seqOf_l, truD_b, truD_t, truD_l, kTup_t, fIsN_n, fIsi_non_int, fIsi_non_bool, fIsi_non_str, fIsi_non_tuple, fIsi_non_list, fIsi_bl_int, fIsi_bl_bool, fIsi_bl_str, fIsi_bl_tuple, fIsi_bl_list, fIsi_int_int, fIsi_int_bool, fIsi_int_str, fIsi_int_tuple, fIsi_int_list, fIsi_str_int, fIsi_str_bool, fIsi_str_str, fIsi_str_tuple, fIsi_str_list, fIsi_tup_int, fIsi_tup_bool, fIsi_tup_str, fIsi_tup_tuple, fIsi_tup_list, fIsi_lst_int, fIsi_lst_bool, fIsi_lst_str, fIsi_lst_tuple, fIsi_lst_list, isN, fIx_sy0, fIx_sy1, ite_tt, ite_ff]
  all_goals try simp only [Bool.false_eq_true, if_false, if_true, Bool.not_false, Bool.not_true]
  all_goals exact hq
def leNum (d : D) (n : Nat) : Bool := match d with
  | .int i => decide (i ≤ (n : Int))
  | _ => false
def sp_is_number_to : ASp := fun ds m P _ => ∃ (d : D) (n : Nat), ds = [d, .int n] ∧ top? d = true ∧ P (.bl (isNum d && leNum d n)) m
theorem rd_is_number_to : ∀ ds m Q W, sp_is_number_to ds m Q W → b_is_number_to sp_is_number W { nx := fun _ m' => fzE K Q .non m', rt := fzE K Q } (ds.map some ++ List.replicate (N_is_number_to.length - ds.length) none) m := by
  rintro ds m Q W ⟨d, n, rfl, ht, hq⟩
  change b_is_number_to sp_is_number W _ [some d, some (.int n)] m
  unfold b_is_number_to
  have hq := fzE.of (K := K) hq
  simp only [aSeq, aSet, aC, aVar, aOp, aTest, aTru, aAnd, aOr, aNot, aAndV, aOrV, aNotV, aIfE, aNil, aCons, aTup, aLst, aLstB, aUn, aCa, aSl, aNo, aPart, aM, aML, aRet, aRetN, aIf, aDo, aNext, aCont, aBrk, aAsg, aCall, aCallX, aMeth, aFld, aSetFld, aFldAug, aAug, aRaise, aMake, aYes, kName, kCons, kNil, kSub, nth, put, wipeD, asT_b, fAdd_i, fAdd_s, fAdd_t, fAdd_l, fSub_i, fLt_i, fLe_i, fGt_i, fGe_i, fMul_i, fMod_i, fFdiv_i, fPow_i, fNeg_i, fEq_i, fEq_s, fEq_b, fNe_i, fNe_s, fNe_b, fIn_s, fNi_s, fIx_t0, fIx_t1, fIx_t2, fIx_l0, fIx_l1, fSl_s, fSl_t, fSl_l, fLen_t, fLen_l, fInt_i, fAbs_i, fMax_i, fMin_i, fTuple_t, fTuple_l, fList_t, fList_l, fRepS_s, seqOf_t, seqOf_l, truD_b, truD_t, truD_l, kTup_t, fIsN_n, fIsi_non_int, fIsi_non_bool, fIsi_non_str, fIsi_non_tuple, fIsi_non_list, fIsi_bl_int, fIsi_bl_bool, fIsi_bl_str, fIsi_bl_tuple, fIsi_bl_list, fIsi_int_int, fIsi_int_bool, fIsi_int_str, fIsi_int_tuple, fIsi_int_list, fIsi_str_int, fIsi_str_bool, fIsi_str_str, fIsi_str_tuple, fIsi_str_list, fIsi_tup_int, fIsi_tup_bool, fIsi_tup_str, fIsi_tup_tuple, fIsi_tup_list, fIsi_lst_int, fIsi_lst_bool, fIsi_lst_str, fIsi_lst_tuple, fIsi_lst_list, isN, fIx_sy0, fIx_sy1, ite_tt, ite_ff]
  refine ⟨d, rfl, ht, ?_⟩
  cases e : isNum d with
  | false =>
    rw [e] at hq
    exact hq
  | true =>
    rw [e] at hq
    cases d with
    | int i =>
      simp only [aSeq, aSet, aC, aVar, aOp, aTest, aTru, aAnd, aOr, aNot, aAndV, aOrV, aNotV, aIfE, aNil, aCons, aTup, aLst, aLstB, aUn, aCa, aSl, aNo, aPart, aM, aML, aRet, aRetN, aIf, aDo, aNext, aCont, aBrk, aAsg, aCall, aCallX, aMeth, aFld, aSetFld, aFldAug, aAug, aRaise, aMake, aYes, kName, kCons, kNil, kSub, nth, put, wipeD, asT_b, fAdd_i, fAdd_s, fAdd_t, fAdd_l, fSub_i, fLt_i, fLe_i, fGt_i, fGe_i, fMul_i, fMod_i, fFdiv_i, fPow_i, fNeg_i, fEq_i, fEq_s, fEq_b, fNe_i, fNe_s, fNe_b, fIn_s, fNi_s, fIx_t0, fIx_t1, fIx_t2, fIx_l0, fIx_l1, fSl_s, fSl_t, fSl_l, fLen_t, fLen_l, fInt_i, fAbs_i, fMax_i, fMin_i, fTuple_t, fTuple_l, fList_t, fList_l, fRepS_s, seqOf_t, seqOf_l, truD_b, truD_t, truD_l, kTup_t, fIsN_n, fIsi_non_int, fIsi_non_bool, fIsi_non_str, fIsi_non_tuple, fIsi_non_list, fIsi_bl_int, fIsi_bl_bool, fIsi_bl_str, fIsi_bl_tuple, fIsi_bl_list, fIsi_int_int, fIsi_int_bool, fIsi_int_str, fIsi_int_tuple, fIsi_int_list, fIsi_str_int, fIsi_str_bool, fIsi_str_str, fIsi_str_tuple, fIsi_str_list, fIsi_tup_int, fIsi_tup_bool, fIsi_tup_str, fIsi_tup_tuple, fIsi_tup_list, fIsi_lst_int, fIsi_lst_bool, fIsi_lst_str, fIsi_lst_tuple, fIsi_lst_list, isN, fIx_sy0, fIx_sy1, ite_tt, ite_ff]
      exact hq
    | _ => cases e
def sp_is_node : ASp := fun ds m P _ => ∃ (i : Int) (r : List Sy), ds = [.int i, rowD r] ∧ P (.bl (decide (0 ≤ i) && decide (i < r.length))) m
theorem rd_is_node : ∀ ds m Q W, sp_is_node ds m Q W → b_is_node sp_is_number W { nx := fun _ m' => fzE K Q .non m', rt := fzE K Q } (ds.map some ++ List.replicate (N_is_node.length - ds.length) none) m := by
  rintro ds m Q W ⟨i, r, rfl, hq⟩
  change b_is_node sp_is_number W _ [some (.int i), some (rowD r)] m
  unfold b_is_node rowD
  have hq := fzE.of (K := K) hq
  simp only [aSeq, aSet, aC, aVar, aOp, aTest, aTru, aAnd, aOr, aNot, aAndV, aOrV, aNotV, aIfE, aNil, aCons, aTup, aLst, aLstB, aUn, aCa, aSl, aNo, aPart, aM, aML, aRet, aRetN, aIf, aDo, aNext, aCont, aBrk, aAsg, aCall, aCallX, aMeth, aFld, aSetFld, aFldAug, aAug, aRaise, aMake, aYes, kName, kCons, kNil, kSub, nth, put, wipeD, asT_b, fAdd_i, fAdd_s, fAdd_t, fAdd_l, fSub_i, fLt_i, fLe_i, fGt_i, fGe_i, fMul_i, fMod_i, fFdiv_i, fPow_i, fNeg_i, fEq_i, fEq_s, fEq_b, fNe_i, fNe_s, fNe_b, fIn_s, fNi_s, fIx_t0, fIx_t1, fIx_t2, fIx_l0, fIx_l1, fSl_s, fSl_t, fSl_l, fLen_t, fLen_l, fInt_i, fAbs_i, fMax_i, fMin_i, fTuple_t, fTuple_l, fList_t, fList_l, fRepS_s, seqOf_t, seqOf_l, truD_b, truD_t, truD_l, kTup_t, fIsN_n, fIsi_non_int, fIsi_non_bool, fIsi_non_str, fIsi_non_tuple, fIsi_non_list, fIsi_bl_int, fIsi_bl_bool, fIsi_bl_str, fIsi_bl_tuple, fIsi_bl_list, fIsi_int_int, fIsi_int_bool, fIsi_int_str, fIsi_int_tuple, fIsi_int_list, fIsi_str_int, fIsi_str_bool, fIsi_str_str, fIsi_str_tuple, fIsi_str_list, fIsi_tup_int, fIsi_tup_bool, fIsi_tup_str, fIsi_tup_tuple, fIsi_tup_list, fIsi_lst_int, fIsi_lst_bool, fIsi_lst_str, fIsi_lst_tuple, fIsi_lst_list, isN, fIx_sy0, fIx_sy1, ite_tt, ite_ff]
  refine ⟨.int i, rfl, rfl, ?_⟩
  have e : isNum (.int i) = decide (0 ≤ i) := rfl
  rw [e]
  cases e2 : decide (0 ≤ i) with
  | false =>
    rw [e2] at hq
    exact hq
  | true =>
    rw [e2] at hq
    simp only [aSeq, aSet, aC, aVar, aOp, aTest, aTru, aAnd, aOr, aNot, aAndV, aOrV, aNotV, aIfE, aNil, aCons, aTup, aLst, aLstB, aUn, aCa, aSl, aNo, aPart, aM, aML, aRet, aRetN, aIf, aDo, aNext, aCont, aBrk, aAsg, aCall, aCallX, aMeth, aFld, aSetFld, aFldAug, aAug, aRaise, aMake, aYes, kName, kCons, kNil, kSub, nth, put, wipeD, asT_b, fAdd_i, fAdd_s, fAdd_t, fAdd_l, fSub_i, fLt_i, fLe_i, fGt_i, fGe_i, fMul_i, fMod_i, fFdiv_i, fPow_i, fNeg_i, fEq_i, fEq_s, fEq_b, fNe_i, fNe_s, fNe_b, fIn_s, fNi_s, fIx_t0, fIx_t1, fIx_t2, fIx_l0, fIx_l1, fSl_s, fSl_t, fSl_l, fLen_t, fLen_l, fInt_i, fAbs_i, fMax_i, fMin_i, fTuple_t, fTuple_l, fList_t, fList_l, fRepS_s, seqOf_t, seqOf_l, truD_b, truD_t, truD_l, kTup_t, fIsN_n, fIsi_non_int, fIsi_non_bool, fIsi_non_str, fIsi_non_tuple, fIsi_non_list, fIsi_bl_int, fIsi_bl_bool, fIsi_bl_str, fIsi_bl_tuple, fIsi_bl_list, fIsi_int_int, fIsi_int_bool, fIsi_int_str, fIsi_int_tuple, fIsi_int_list, fIsi_str_int, fIsi_str_bool, fIsi_str_str, fIsi_str_tuple, fIsi_str_list, fIsi_tup_int, fIsi_tup_bool, fIsi_tup_str, fIsi_tup_tuple, fIsi_tup_list, fIsi_lst_int, fIsi_lst_bool, fIsi_lst_str, fIsi_lst_tuple, fIsi_lst_list, isN, fIx_sy0, fIx_sy1, ite_tt, ite_ff]
    rw [List.length_map]
    exact hq
def LETS : Str := "abcdefghijklmnopqrstuvwxyz"
def SIGS : Str := "abcdefghijklmnopqrstuvwxyz0123456789-"
def DOT : Str := "."
def wordL : List Nat → Bool
  | [] => false
  | c :: r => decide (c ∈ LETS.cps.toList) && (c :: r).all fun x => decide (x ∈ SIGS.cps.toList)
def wordS (z : Str) : Bool := decide (1 ≤ z.length ∧ z.length ≤ 16) && (decide (z = DOT) || wordL z.cps.toList)
def isWordD : D → Bool
  | .str z => wordS z
  | _ => false
def fitD : D → Bool
  | .str z => decide (z.length ≤ 1000000)
  | d => top? d
def sp_is_word : ASp := fun ds m P _ => ∃ d, ds = [d] ∧ fitD d = true ∧ P (.bl (isWordD d)) m
theorem rd_is_word : ∀ ds m Q W, sp_is_word ds m Q W → b_is_word (.str LETS) (.int 16) (.str DOT) (.str SIGS) W { nx := fun _ m' => fzE K Q .non m', rt := fzE K Q } (ds.map some ++ List.replicate (N_is_word.length - ds.length) none) m := by
  rintro ds m Q W ⟨d, rfl, ht, hq⟩
  change b_is_word _ _ _ _ W _ [some d, none] m
  unfold b_is_word
  have hq := fzE.of (K := K) hq
  cases d with
  | str z =>
    have hz : z.length ≤ 1000000 := by simpa [fitD] using ht
    refine cut_plain ?_
    simp only [aSeq, aSet, aC, aVar, aOp, aTest, aTru, aAnd, aOr, aNot, aAndV, aOrV, aNotV, aIfE, aNil, aCons, aTup, aLst, aLstB, aUn, aCa, aSl, aNo, aPart, aM, aML, aRet, aRetN, aIf, aDo, aNext, aCont, aBrk, aAsg, aCall, aCallX, aMeth, aFld, aSetFld, aFldAug, aAug, aRaise, aMake, aYes, kName, kCons, kNil, kSub, nth, put, wipeD, asT_b, fAdd_i, fAdd_s, fAdd_t, fAdd_l, fSub_i, fLt_i, fLe_i, fGt_i, fGe_i, fMul_i, fMod_i, fFdiv_i, fPow_i, fNeg_i, fEq_i, fEq_s, fEq_b, fNe_i, fNe_s, fNe_b, fIn_s, fNi_s, fIx_t0, fIx_t1, fIx_t2, fIx_l0, fIx_l1, fSl_s, fSl_t, fSl_l, fLen_t, fLen_l, fInt_i, fAbs_i, fMax_i, fMin_i, fTuple_t, fTuple_l, fList_t, fList_l, fRepS_s, seqOf_t, seqOf_l, truD_b, truD_t, truD_l, kTup_t, fIsN_n, fIsi_non_int, fIsi_non_bool, fIsi_non_str, fIsi_non_tuple, fIsi_non_list, fIsi_bl_int, fIsi_bl_bool, fIsi_bl_str, fIsi_bl_tuple, fIsi_bl_list, fIsi_int_int, fIsi_int_bool, fIsi_int_str, fIsi_int_tuple, fIsi_int_list, fIsi_str_int, fIsi_str_bool, fIsi_str_str, fIsi_str_tuple, fIsi_str_list, fIsi_tup_int, fIsi_tup_bool, fIsi_tup_str, fIsi_tup_tuple, fIsi_tup_list, fIsi_lst_int, fIsi_lst_bool, fIsi_lst_str, fIsi_lst_tuple, fIsi_lst_list, isN, fIx_sy0, fIx_sy1, ite_tt, ite_ff, aChain, fLen, lenD, if_pos hz]
    try simp only [Bool.not_true, Bool.false_eq_true, if_false]
    by_cases h1 : (1 : Int) ≤ (z.length : Int)
    · rw [decide_eq_true h1, if_pos rfl]
      try simp only [aSeq, aSet, aC, aVar, aOp, aTest, aTru, aAnd, aOr, aNot, aAndV, aOrV, aNotV, aIfE, aNil, aCons, aTup, aLst, aLstB, aUn, aCa, aSl, aNo, aPart, aM, aML, aRet, aRetN, aIf, aDo, aNext, aCont, aBrk, aAsg, aCall, aCallX, aMeth, aFld, aSetFld, aFldAug, aAug, aRaise, aMake, aYes, kName, kCons, kNil, kSub, nth, put, wipeD, asT_b, fAdd_i, fAdd_s, fAdd_t, fAdd_l, fSub_i, fLt_i, fLe_i, fGt_i, fGe_i, fMul_i, fMod_i, fFdiv_i, fPow_i, fNeg_i, fEq_i, fEq_s, fEq_b, fNe_i, fNe_s, fNe_b, fIn_s, fNi_s, fIx_t0, fIx_t1, fIx_t2, fIx_l0, fIx_l1, fSl_s, fSl_t, fSl_l, fLen_t, fLen_l, fInt_i, fAbs_i, fMax_i, fMin_i, fTuple_t, fTuple_l, fList_t, fList_l, fRepS_s, seqOf_t, seqOf_l, truD_b, truD_t, truD_l, kTup_t, fIsN_n, fIsi_non_int, fIsi_non_bool, fIsi_non_str, fIsi_non_tuple, fIsi_non_list, fIsi_bl_int, fIsi_bl_bool, fIsi_bl_str, fIsi_bl_tuple, fIsi_bl_list, fIsi_int_int, fIsi_int_bool, fIsi_int_str, fIsi_int_tuple, fIsi_int_list, fIsi_str_int, fIsi_str_bool, fIsi_str_str, fIsi_str_tuple, fIsi_str_list, fIsi_tup_int, fIsi_tup_bool, fIsi_tup_str, fIsi_tup_tuple, fIsi_tup_list, fIsi_lst_int, fIsi_lst_bool, fIsi_lst_str, fIsi_lst_tuple, fIsi_lst_list, isN, fIx_sy0, fIx_sy1, ite_tt, ite_ff]
      by_cases h2 : (z.length : Int) ≤ 16
      · rw [decide_eq_true h2]
        try simp only [Bool.not_true, Bool.false_eq_true, if_false]
        refine cut_plain ?_
        try simp only [aSeq, aSet, aC, aVar, aOp, aTest, aTru, aAnd, aOr, aNot, aAndV, aOrV, aNotV, aIfE, aNil, aCons, aTup, aLst, aLstB, aUn, aCa, aSl, aNo, aPart, aM, aML, aRet, aRetN, aIf, aDo, aNext, aCont, aBrk, aAsg, aCall, aCallX, aMeth, aFld, aSetFld, aFldAug, aAug, aRaise, aMake, aYes, kName, kCons, kNil, kSub, nth, put, wipeD, asT_b, fAdd_i, fAdd_s, fAdd_t, fAdd_l, fSub_i, fLt_i, fLe_i, fGt_i, fGe_i, fMul_i, fMod_i, fFdiv_i, fPow_i, fNeg_i, fEq_i, fEq_s, fEq_b, fNe_i, fNe_s, fNe_b, fIn_s, fNi_s, fIx_t0, fIx_t1, fIx_t2, fIx_l0, fIx_l1, fSl_s, fSl_t, fSl_l, fLen_t, fLen_l, fInt_i, fAbs_i, fMax_i, fMin_i, fTuple_t, fTuple_l, fList_t, fList_l, fRepS_s, seqOf_t, seqOf_l, truD_b, truD_t, truD_l, kTup_t, fIsN_n, fIsi_non_int, fIsi_non_bool, fIsi_non_str, fIsi_non_tuple, fIsi_non_list, fIsi_bl_int, fIsi_bl_bool, fIsi_bl_str, fIsi_bl_tuple, fIsi_bl_list, fIsi_int_int, fIsi_int_bool, fIsi_int_str, fIsi_int_tuple, fIsi_int_list, fIsi_str_int, fIsi_str_bool, fIsi_str_str, fIsi_str_tuple, fIsi_str_list, fIsi_tup_int, fIsi_tup_bool, fIsi_tup_str, fIsi_tup_tuple, fIsi_tup_list, fIsi_lst_int, fIsi_lst_bool, fIsi_lst_str, fIsi_lst_tuple, fIsi_lst_list, isN, fIx_sy0, fIx_sy1, ite_tt, ite_ff]
        by_cases h3 : z = DOT
        · rw [decide_eq_true h3, if_pos rfl]
          have e : isWordD (.str z) = true := by
            show (decide _ && (decide _ || _)) = true
            rw [decide_eq_true h3, decide_eq_true ⟨by omega, by omega⟩]
            rfl
          rw [e] at hq
          exact hq
        · rw [decide_eq_false h3, if_neg (by decide)]
          have hsz : z.cps.size = z.length := rfl
          obtain ⟨c, r, ec⟩ : ∃ c r, z.cps.toList = c :: r := by
            cases q : z.cps.toList with
            | nil =>
              have : z.cps.toList.length = 0 := by rw [q]; rfl
              rw [Array.length_toList] at this
              omega
            | cons c r => exact ⟨c, r, rfl⟩
          have hl : (c :: r).length = z.length := by rw [← ec, Array.length_toList]; rfl
          have e : isWordD (.str z) = (decide (c ∈ LETS.cps.toList) && (c :: r).all fun x => decide (x ∈ SIGS.cps.toList)) := by
            show (decide _ && (decide _ || wordL z.cps.toList)) = _
            rw [decide_eq_false h3, decide_eq_true ⟨by omega, by omega⟩, ec]
            rfl
          rw [e] at hq
          have at0 : atI z.cps.toList 0 = some c := by
            rw [ec]
            exact atI_i (i := 0) rfl rfl
          try simp only [aSeq, aSet, aC, aVar, aOp, aTest, aTru, aAnd, aOr, aNot, aAndV, aOrV, aNotV, aIfE, aNil, aCons, aTup, aLst, aLstB, aUn, aCa, aSl, aNo, aPart, aM, aML, aRet, aRetN, aIf, aDo, aNext, aCont, aBrk, aAsg, aCall, aCallX, aMeth, aFld, aSetFld, aFldAug, aAug, aRaise, aMake, aYes, kName, kCons, kNil, kSub, nth, put, wipeD, asT_b, fAdd_i, fAdd_s, fAdd_t, fAdd_l, fSub_i, fLt_i, fLe_i, fGt_i, fGe_i, fMul_i, fMod_i, fFdiv_i, fPow_i, fNeg_i, fEq_i, fEq_s, fEq_b, fNe_i, fNe_s, fNe_b, fIn_s, fNi_s, fIx_t0, fIx_t1, fIx_t2, fIx_l0, fIx_l1, fSl_s, fSl_t, fSl_l, fLen_t, fLen_l, fInt_i, fAbs_i, fMax_i, fMin_i, fTuple_t, fTuple_l, fList_t, fList_l, fRepS_s, seqOf_t, seqOf_l, truD_b, truD_t, truD_l, kTup_t, fIsN_n, fIsi_non_int, fIsi_non_bool, fIsi_non_str, fIsi_non_tuple, fIsi_non_list, fIsi_bl_int, fIsi_bl_bool, fIsi_bl_str, fIsi_bl_tuple, fIsi_bl_list, fIsi_int_int, fIsi_int_bool, fIsi_int_str, fIsi_int_tuple, fIsi_int_list, fIsi_str_int, fIsi_str_bool, fIsi_str_str, fIsi_str_tuple, fIsi_str_list, fIsi_tup_int, fIsi_tup_bool, fIsi_tup_str, fIsi_tup_tuple, fIsi_tup_list, fIsi_lst_int, fIsi_lst_bool, fIsi_lst_str, fIsi_lst_tuple, fIsi_lst_list, isN, fIx_sy0, fIx_sy1, ite_tt, ite_ff, fIx, at0]
          refine ⟨hz, ?_⟩
          cases e1 : decide (c ∈ LETS.cps.toList) with
          | false =>
            rw [e1] at hq
            exact hq
          | true =>
            rw [e1] at hq
            try simp only [aSeq, aSet, aC, aVar, aOp, aTest, aTru, aAnd, aOr, aNot, aAndV, aOrV, aNotV, aIfE, aNil, aCons, aTup, aLst, aLstB, aUn, aCa, aSl, aNo, aPart, aM, aML, aRet, aRetN, aIf, aDo, aNext, aCont, aBrk, aAsg, aCall, aCallX, aMeth, aFld, aSetFld, aFldAug, aAug, aRaise, aMake, aYes, kName, kCons, kNil, kSub, nth, put, wipeD, asT_b, fAdd_i, fAdd_s, fAdd_t, fAdd_l, fSub_i, fLt_i, fLe_i, fGt_i, fGe_i, fMul_i, fMod_i, fFdiv_i, fPow_i, fNeg_i, fEq_i, fEq_s, fEq_b, fNe_i, fNe_s, fNe_b, fIn_s, fNi_s, fIx_t0, fIx_t1, fIx_t2, fIx_l0, fIx_l1, fSl_s, fSl_t, fSl_l, fLen_t, fLen_l, fInt_i, fAbs_i, fMax_i, fMin_i, fTuple_t, fTuple_l, fList_t, fList_l, fRepS_s, seqOf_t, seqOf_l, truD_b, truD_t, truD_l, kTup_t, fIsN_n, fIsi_non_int, fIsi_non_bool, fIsi_non_str, fIsi_non_tuple, fIsi_non_list, fIsi_bl_int, fIsi_bl_bool, fIsi_bl_str, fIsi_bl_tuple, fIsi_bl_list, fIsi_int_int, fIsi_int_bool, fIsi_int_str, fIsi_int_tuple, fIsi_int_list, fIsi_str_int, fIsi_str_bool, fIsi_str_str, fIsi_str_tuple, fIsi_str_list, fIsi_tup_int, fIsi_tup_bool, fIsi_tup_str, fIsi_tup_tuple, fIsi_tup_list, fIsi_lst_int, fIsi_lst_bool, fIsi_lst_str, fIsi_lst_tuple, fIsi_lst_list, isN, fIx_sy0, fIx_sy1, ite_tt, ite_ff, aLcT]
            refine ⟨z, rfl, fun p hp => lc_pure (fun i => some (.bl (decide (z.cps.getD i 0 ∈ SIGS.cps.toList)))) (by omega) (fun _ => trivial) (fun i acc hi h => ?_) ?_⟩
            · have es : sgD z i = .str ⟨#[z.cps.getD i 0]⟩ := rfl
              try simp only [aSeq, aSet, aC, aVar, aOp, aTest, aTru, aAnd, aOr, aNot, aAndV, aOrV, aNotV, aIfE, aNil, aCons, aTup, aLst, aLstB, aUn, aCa, aSl, aNo, aPart, aM, aML, aRet, aRetN, aIf, aDo, aNext, aCont, aBrk, aAsg, aCall, aCallX, aMeth, aFld, aSetFld, aFldAug, aAug, aRaise, aMake, aYes, kName, kCons, kNil, kSub, nth, put, wipeD, asT_b, fAdd_i, fAdd_s, fAdd_t, fAdd_l, fSub_i, fLt_i, fLe_i, fGt_i, fGe_i, fMul_i, fMod_i, fFdiv_i, fPow_i, fNeg_i, fEq_i, fEq_s, fEq_b, fNe_i, fNe_s, fNe_b, fIn_s, fNi_s, fIx_t0, fIx_t1, fIx_t2, fIx_l0, fIx_l1, fSl_s, fSl_t, fSl_l, fLen_t, fLen_l, fInt_i, fAbs_i, fMax_i, fMin_i, fTuple_t, fTuple_l, fList_t, fList_l, fRepS_s, seqOf_t, seqOf_l, truD_b, truD_t, truD_l, kTup_t, fIsN_n, fIsi_non_int, fIsi_non_bool, fIsi_non_str, fIsi_non_tuple, fIsi_non_list, fIsi_bl_int, fIsi_bl_bool, fIsi_bl_str, fIsi_bl_tuple, fIsi_bl_list, fIsi_int_int, fIsi_int_bool, fIsi_int_str, fIsi_int_tuple, fIsi_int_list, fIsi_str_int, fIsi_str_bool, fIsi_str_str, fIsi_str_tuple, fIsi_str_list, fIsi_tup_int, fIsi_tup_bool, fIsi_tup_str, fIsi_tup_tuple, fIsi_tup_list, fIsi_lst_int, fIsi_lst_bool, fIsi_lst_str, fIsi_lst_tuple, fIsi_lst_list, isN, fIx_sy0, fIx_sy1, ite_tt, ite_ff, es]
              exact pvF_yes h rfl
            · have em : (List.range z.cps.size).filterMap (fun i => some (D.bl (decide (z.cps.getD i 0 ∈ SIGS.cps.toList)))) = (c :: r).map fun x => .bl (decide (x ∈ SIGS.cps.toList)) := by
                have e3 : z.cps.size = (c :: r).length := by rw [hl]; rfl
                rw [e3]
                refine fm_map fun i a ha => ?_
                have : z.cps.getD i 0 = a := by
                  rw [Array.getD_eq_getD_getElem?, ← Array.getElem?_toList, ec, ha]
                  rfl
                rw [this]
              rw [em, if_pos trivial, mdel_mset hp]
              have eb : ∀ l : List Nat, boolsOf (l.map fun x => D.bl (decide (x ∈ SIGS.cps.toList))) = some (l.map fun x => decide (x ∈ SIGS.cps.toList)) := by
                intro l
                induction l with
                | nil => rfl
                | cons x l ih =>
                  rw [List.map_cons, boolsOf, ih]
                  rfl
              show fAll [.lst _] m _
              simp only [fAll, lstOf, eb, List.all_map]
              exact hq
      · rw [decide_eq_false h2]
        try simp only [Bool.not_false, if_true]
        have e : isWordD (.str z) = false := by
          show (decide _ && _) = false
          rw [decide_eq_false (by omega)]
          rfl
        rw [e] at hq
        exact hq
    · rw [decide_eq_false h1, if_neg (by decide)]
      try simp only [Bool.not_false, if_true]
      have e : isWordD (.str z) = false := by
        show (decide _ && _) = false
        rw [decide_eq_false (by omega)]
        rfl
      rw [e] at hq
      exact hq
  | _ =>
    first
    | (cases ht; done)
    | (refine cut_plain ?_
       try simp only [aSeq, aSet, aC, aVar, aOp, aTest, aTru, aAnd, aOr, aNot, aAndV, aOrV, aNotV, aIfE, aNil, aCons, aTup, aLst, aLstB, aUn, aCa, aSl, aNo, aPart, aM, aML, aRet, aRetN, aIf, aDo, aNext, aCont, aBrk, aAsg, aCall, aCallX, aMeth, aFld, aSetFld, aFldAug, aAug, aRaise, aMake, aYes, kName, kCons, kNil, kSub, nth, put, wipeD, asT_b, fAdd_i, fAdd_s, fAdd_t, fAdd_l, fSub_i, fLt_i, fLe_i, fGt_i, fGe_i, fMul_i, fMod_i, fFdiv_i, fPow_i, fNeg_i, fEq_i, fEq_s, fEq_b, fNe_i, fNe_s, fNe_b, fIn_s, fNi_s, fIx_t0, fIx_t1, fIx_t2, fIx_l0, fIx_l1, fSl_s, fSl_t, fSl_l, fLen_t, fLen_l, fInt_i, fAbs_i, fMax_i, fMin_i, fTuple_t, fTuple_l, fList_t, fList_l, fRepS_s, seqOf_t, seqOf_l, truD_b, truD_t, truD_l, kTup_t, fIsN_n, fIsi_non_int, fIsi_non_bool, fIsi_non_str, fIsi_non_tuple, fIsi_non_list, fIsi_bl_int, fIsi_bl_bool, fIsi_bl_str, fIsi_bl_tuple, fIsi_bl_list, fIsi_int_int, fIsi_int_bool, fIsi_int_str, fIsi_int_tuple, fIsi_int_list, fIsi_str_int, fIsi_str_bool, fIsi_str_str, fIsi_str_tuple, fIsi_str_list, fIsi_tup_int, fIsi_tup_bool, fIsi_tup_str, fIsi_tup_tuple, fIsi_tup_list, fIsi_lst_int, fIsi_lst_bool, fIsi_lst_str, fIsi_lst_tuple, fIsi_lst_list, isN, fIx_sy0, fIx_sy1, ite_tt, ite_ff]
       try simp only [Bool.not_false, if_true]
       exact hq)
end AL
set_option maxHeartbeats 4000000
namespace AL
open PySem L2 Evl
variable {K : PySem.W.Frag}
def silentOk (w n : D) : Bool := match w, n with
  | .str z, .int i => !decide (z = DOT) || decide (i = 0)
  | _, _ => false
def isSymD (d : D) : Bool := match d with
  | .tup [w, n] => (isWordD w && (isNum n && leNum n 4)) && silentOk w n
  | _ => false
def fitE (d : D) : Bool := match d with
  | .tup [w, n] => fitD w && top? n
  | d => top? d
def sp_is_symbol : ASp := fun ds m P _ => ∃ d, ds = [d] ∧ fitE d = true ∧ P (.bl (isSymD d)) m
theorem rd_is_symbol : ∀ ds m Q W, sp_is_symbol ds m Q W → b_is_symbol (.int 4) (.str DOT) sp_is_number_to sp_is_word W { nx := fun _ m' => fzE K Q .non m', rt := fzE K Q } (ds.map some ++ List.replicate (N_is_symbol.length - ds.length) none) m := by
  rintro ds m Q W ⟨d, rfl, ht, hq⟩
  change b_is_symbol _ _ _ _ W _ [some d, none, none] m
  unfold b_is_symbol
  have hq := fzE.of (K := K) hq
  cases d with
  | tup es =>
    refine cut_plain ?_
    simp only [aSeq, aSet, aC, aVar, aOp, aTest, aTru, aAnd, aOr, aNot, aAndV, aOrV, aNotV, aIfE, aNil, aCons, aTup, aLst, aLstB, aUn, aCa, aSl, aNo, aPart, aM, aML, aRet, aRetN, aIf, aDo, aNext, aCont, aBrk, aAsg, aCall, aCallX, aMeth, aFld, aSetFld, aFldAug, aAug, aRaise, aMake, aYes, kName, kCons, kNil, kSub, nth, put, wipeD, asT_b, fAdd_i, fAdd_s, fAdd_t, fAdd_l, fSub_i, fLt_i, fLe_i, fGt_i, fGe_i, fMul_i, fMod_i, fFdiv_i, fPow_i, fNeg_i, fEq_i, fEq_s, fEq_b, fNe_i, fNe_s, fNe_b, fIn_s, fNi_s, fIx_t0, fIx_t1, fIx_t2, fIx_l0, fIx_l1, fSl_s, fSl_t, fSl_l, fLen_t, fLen_l, fInt_i, fAbs_i, fMax_i, fMin_i, fTuple_t, fTuple_l, fList_t, fList_l, fRepS_s, seqOf_t, seqOf_l, truD_b, truD_t, truD_l, kTup_t, fIsN_n, fIsi_non_int, fIsi_non_bool, fIsi_non_str, fIsi_non_tuple, fIsi_non_list, fIsi_bl_int, fIsi_bl_bool, fIsi_bl_str, fIsi_bl_tuple, fIsi_bl_list, fIsi_int_int, fIsi_int_bool, fIsi_int_str, fIsi_int_tuple, fIsi_int_list, fIsi_str_int, fIsi_str_bool, fIsi_str_str, fIsi_str_tuple, fIsi_str_list, fIsi_tup_int, fIsi_tup_bool, fIsi_tup_str, fIsi_tup_tuple, fIsi_tup_list, fIsi_lst_int, fIsi_lst_bool, fIsi_lst_str, fIsi_lst_tuple, fIsi_lst_list, isN, fIx_sy0, fIx_sy1, ite_tt, ite_ff]
    match es, ht, hq with
    | [], ht, hq =>
      simp
      exact hq
    | [x], ht, hq =>
      simp
      exact hq
    | x :: y :: z :: r, ht, hq =>
      have e : ¬ (((x :: y :: z :: r).length : Int) = 2) := by
        rw [List.length_cons, List.length_cons, List.length_cons]
        omega
      simp [e]
      exact ⟨by omega, hq⟩
    | [x, n], ht, hq =>
      have hw : fitD x = true ∧ top? n = true := by simpa [fitE] using ht
      simp only [List.length_cons, List.length_nil]
      simp
      refine cut_plain ?_
      simp only [aSeq, aSet, aC, aVar, aOp, aTest, aTru, aAnd, aOr, aNot, aAndV, aOrV, aNotV, aIfE, aNil, aCons, aTup, aLst, aLstB, aUn, aCa, aSl, aNo, aPart, aM, aML, aRet, aRetN, aIf, aDo, aNext, aCont, aBrk, aAsg, aCall, aCallX, aMeth, aFld, aSetFld, aFldAug, aAug, aRaise, aMake, aYes, kName, kCons, kNil, kSub, nth, put, wipeD, asT_b, fAdd_i, fAdd_s, fAdd_t, fAdd_l, fSub_i, fLt_i, fLe_i, fGt_i, fGe_i, fMul_i, fMod_i, fFdiv_i, fPow_i, fNeg_i, fEq_i, fEq_s, fEq_b, fNe_i, fNe_s, fNe_b, fIn_s, fNi_s, fIx_t0, fIx_t1, fIx_t2, fIx_l0, fIx_l1, fSl_s, fSl_t, fSl_l, fLen_t, fLen_l, fInt_i, fAbs_i, fMax_i, fMin_i, fTuple_t, fTuple_l, fList_t, fList_l, fRepS_s, seqOf_t, seqOf_l, truD_b, truD_t, truD_l, kTup_t, fIsN_n, fIsi_non_int, fIsi_non_bool, fIsi_non_str, fIsi_non_tuple, fIsi_non_list, fIsi_bl_int, fIsi_bl_bool, fIsi_bl_str, fIsi_bl_tuple, fIsi_bl_list, fIsi_int_int, fIsi_int_bool, fIsi_int_str, fIsi_int_tuple, fIsi_int_list, fIsi_str_int, fIsi_str_bool, fIsi_str_str, fIsi_str_tuple, fIsi_str_list, fIsi_tup_int, fIsi_tup_bool, fIsi_tup_str, fIsi_tup_tuple, fIsi_tup_list, fIsi_lst_int, fIsi_lst_bool, fIsi_lst_str, fIsi_lst_tuple, fIsi_lst_list, isN, fIx_sy0, fIx_sy1, ite_tt, ite_ff]
      refine ⟨x, rfl, hw.1, ?_⟩
      try simp only [aSeq, aSet, aC, aVar, aOp, aTest, aTru, aAnd, aOr, aNot, aAndV, aOrV, aNotV, aIfE, aNil, aCons, aTup, aLst, aLstB, aUn, aCa, aSl, aNo, aPart, aM, aML, aRet, aRetN, aIf, aDo, aNext, aCont, aBrk, aAsg, aCall, aCallX, aMeth, aFld, aSetFld, aFldAug, aAug, aRaise, aMake, aYes, kName, kCons, kNil, kSub, nth, put, wipeD, asT_b, fAdd_i, fAdd_s, fAdd_t, fAdd_l, fSub_i, fLt_i, fLe_i, fGt_i, fGe_i, fMul_i, fMod_i, fFdiv_i, fPow_i, fNeg_i, fEq_i, fEq_s, fEq_b, fNe_i, fNe_s, fNe_b, fIn_s, fNi_s, fIx_t0, fIx_t1, fIx_t2, fIx_l0, fIx_l1, fSl_s, fSl_t, fSl_l, fLen_t, fLen_l, fInt_i, fAbs_i, fMax_i, fMin_i, fTuple_t, fTuple_l, fList_t, fList_l, fRepS_s, seqOf_t, seqOf_l, truD_b, truD_t, truD_l, kTup_t, fIsN_n, fIsi_non_int, fIsi_non_bool, fIsi_non_str, fIsi_non_tuple, fIsi_non_list, fIsi_bl_int, fIsi_bl_bool, fIsi_bl_str, fIsi_bl_tuple, fIsi_bl_list, fIsi_int_int, fIsi_int_bool, fIsi_int_str, fIsi_int_tuple, fIsi_int_list, fIsi_str_int, fIsi_str_bool, fIsi_str_str, fIsi_str_tuple, fIsi_str_list, fIsi_tup_int, fIsi_tup_bool, fIsi_tup_str, fIsi_tup_tuple, fIsi_tup_list, fIsi_lst_int, fIsi_lst_bool, fIsi_lst_str, fIsi_lst_tuple, fIsi_lst_list, isN, fIx_sy0, fIx_sy1, ite_tt, ite_ff]
      have e : isSymD (.tup [x, n]) = ((isWordD x && (isNum n && leNum n 4)) && silentOk x n) := rfl
      rw [e] at hq
      cases e1 : isWordD x with
      | false =>
        rw [e1] at hq
        try simp only [aSeq, aSet, aC, aVar, aOp, aTest, aTru, aAnd, aOr, aNot, aAndV, aOrV, aNotV, aIfE, aNil, aCons, aTup, aLst, aLstB, aUn, aCa, aSl, aNo, aPart, aM, aML, aRet, aRetN, aIf, aDo, aNext, aCont, aBrk, aAsg, aCall, aCallX, aMeth, aFld, aSetFld, aFldAug, aAug, aRaise, aMake, aYes, kName, kCons, kNil, kSub, nth, put, wipeD, asT_b, fAdd_i, fAdd_s, fAdd_t, fAdd_l, fSub_i, fLt_i, fLe_i, fGt_i, fGe_i, fMul_i, fMod_i, fFdiv_i, fPow_i, fNeg_i, fEq_i, fEq_s, fEq_b, fNe_i, fNe_s, fNe_b, fIn_s, fNi_s, fIx_t0, fIx_t1, fIx_t2, fIx_l0, fIx_l1, fSl_s, fSl_t, fSl_l, fLen_t, fLen_l, fInt_i, fAbs_i, fMax_i, fMin_i, fTuple_t, fTuple_l, fList_t, fList_l, fRepS_s, seqOf_t, seqOf_l, truD_b, truD_t, truD_l, kTup_t, fIsN_n, fIsi_non_int, fIsi_non_bool, fIsi_non_str, fIsi_non_tuple, fIsi_non_list, fIsi_bl_int, fIsi_bl_bool, fIsi_bl_str, fIsi_bl_tuple, fIsi_bl_list, fIsi_int_int, fIsi_int_bool, fIsi_int_str, fIsi_int_tuple, fIsi_int_list, fIsi_str_int, fIsi_str_bool, fIsi_str_str, fIsi_str_tuple, fIsi_str_list, fIsi_tup_int, fIsi_tup_bool, fIsi_tup_str, fIsi_tup_tuple, fIsi_tup_list, fIsi_lst_int, fIsi_lst_bool, fIsi_lst_str, fIsi_lst_tuple, fIsi_lst_list, isN, fIx_sy0, fIx_sy1, ite_tt, ite_ff]
        simpa using hq
      | true =>
        rw [e1] at hq
        try simp only [aSeq, aSet, aC, aVar, aOp, aTest, aTru, aAnd, aOr, aNot, aAndV, aOrV, aNotV, aIfE, aNil, aCons, aTup, aLst, aLstB, aUn, aCa, aSl, aNo, aPart, aM, aML, aRet, aRetN, aIf, aDo, aNext, aCont, aBrk, aAsg, aCall, aCallX, aMeth, aFld, aSetFld, aFldAug, aAug, aRaise, aMake, aYes, kName, kCons, kNil, kSub, nth, put, wipeD, asT_b, fAdd_i, fAdd_s, fAdd_t, fAdd_l, fSub_i, fLt_i, fLe_i, fGt_i, fGe_i, fMul_i, fMod_i, fFdiv_i, fPow_i, fNeg_i, fEq_i, fEq_s, fEq_b, fNe_i, fNe_s, fNe_b, fIn_s, fNi_s, fIx_t0, fIx_t1, fIx_t2, fIx_l0, fIx_l1, fSl_s, fSl_t, fSl_l, fLen_t, fLen_l, fInt_i, fAbs_i, fMax_i, fMin_i, fTuple_t, fTuple_l, fList_t, fList_l, fRepS_s, seqOf_t, seqOf_l, truD_b, truD_t, truD_l, kTup_t, fIsN_n, fIsi_non_int, fIsi_non_bool, fIsi_non_str, fIsi_non_tuple, fIsi_non_list, fIsi_bl_int, fIsi_bl_bool, fIsi_bl_str, fIsi_bl_tuple, fIsi_bl_list, fIsi_int_int, fIsi_int_bool, fIsi_int_str, fIsi_int_tuple, fIsi_int_list, fIsi_str_int, fIsi_str_bool, fIsi_str_str, fIsi_str_tuple, fIsi_str_list, fIsi_tup_int, fIsi_tup_bool, fIsi_tup_str, fIsi_tup_tuple, fIsi_tup_list, fIsi_lst_int, fIsi_lst_bool, fIsi_lst_str, fIsi_lst_tuple, fIsi_lst_list, isN, fIx_sy0, fIx_sy1, ite_tt, ite_ff]
        simp only [Bool.not_true, Bool.false_eq_true, if_false]
        refine ⟨n, 4, rfl, hw.2, ?_⟩
        try simp only [aSeq, aSet, aC, aVar, aOp, aTest, aTru, aAnd, aOr, aNot, aAndV, aOrV, aNotV, aIfE, aNil, aCons, aTup, aLst, aLstB, aUn, aCa, aSl, aNo, aPart, aM, aML, aRet, aRetN, aIf, aDo, aNext, aCont, aBrk, aAsg, aCall, aCallX, aMeth, aFld, aSetFld, aFldAug, aAug, aRaise, aMake, aYes, kName, kCons, kNil, kSub, nth, put, wipeD, asT_b, fAdd_i, fAdd_s, fAdd_t, fAdd_l, fSub_i, fLt_i, fLe_i, fGt_i, fGe_i, fMul_i, fMod_i, fFdiv_i, fPow_i, fNeg_i, fEq_i, fEq_s, fEq_b, fNe_i, fNe_s, fNe_b, fIn_s, fNi_s, fIx_t0, fIx_t1, fIx_t2, fIx_l0, fIx_l1, fSl_s, fSl_t, fSl_l, fLen_t, fLen_l, fInt_i, fAbs_i, fMax_i, fMin_i, fTuple_t, fTuple_l, fList_t, fList_l, fRepS_s, seqOf_t, seqOf_l, truD_b, truD_t, truD_l, kTup_t, fIsN_n, fIsi_non_int, fIsi_non_bool, fIsi_non_str, fIsi_non_tuple, fIsi_non_list, fIsi_bl_int, fIsi_bl_bool, fIsi_bl_str, fIsi_bl_tuple, fIsi_bl_list, fIsi_int_int, fIsi_int_bool, fIsi_int_str, fIsi_int_tuple, fIsi_int_list, fIsi_str_int, fIsi_str_bool, fIsi_str_str, fIsi_str_tuple, fIsi_str_list, fIsi_tup_int, fIsi_tup_bool, fIsi_tup_str, fIsi_tup_tuple, fIsi_tup_list, fIsi_lst_int, fIsi_lst_bool, fIsi_lst_str, fIsi_lst_tuple, fIsi_lst_list, isN, fIx_sy0, fIx_sy1, ite_tt, ite_ff]
        cases e2 : (isNum n && leNum n 4) with
        | false =>
          rw [e2] at hq
          try simp only [aSeq, aSet, aC, aVar, aOp, aTest, aTru, aAnd, aOr, aNot, aAndV, aOrV, aNotV, aIfE, aNil, aCons, aTup, aLst, aLstB, aUn, aCa, aSl, aNo, aPart, aM, aML, aRet, aRetN, aIf, aDo, aNext, aCont, aBrk, aAsg, aCall, aCallX, aMeth, aFld, aSetFld, aFldAug, aAug, aRaise, aMake, aYes, kName, kCons, kNil, kSub, nth, put, wipeD, asT_b, fAdd_i, fAdd_s, fAdd_t, fAdd_l, fSub_i, fLt_i, fLe_i, fGt_i, fGe_i, fMul_i, fMod_i, fFdiv_i, fPow_i, fNeg_i, fEq_i, fEq_s, fEq_b, fNe_i, fNe_s, fNe_b, fIn_s, fNi_s, fIx_t0, fIx_t1, fIx_t2, fIx_l0, fIx_l1, fSl_s, fSl_t, fSl_l, fLen_t, fLen_l, fInt_i, fAbs_i, fMax_i, fMin_i, fTuple_t, fTuple_l, fList_t, fList_l, fRepS_s, seqOf_t, seqOf_l, truD_b, truD_t, truD_l, kTup_t, fIsN_n, fIsi_non_int, fIsi_non_bool, fIsi_non_str, fIsi_non_tuple, fIsi_non_list, fIsi_bl_int, fIsi_bl_bool, fIsi_bl_str, fIsi_bl_tuple, fIsi_bl_list, fIsi_int_int, fIsi_int_bool, fIsi_int_str, fIsi_int_tuple, fIsi_int_list, fIsi_str_int, fIsi_str_bool, fIsi_str_str, fIsi_str_tuple, fIsi_str_list, fIsi_tup_int, fIsi_tup_bool, fIsi_tup_str, fIsi_tup_tuple, fIsi_tup_list, fIsi_lst_int, fIsi_lst_bool, fIsi_lst_str, fIsi_lst_tuple, fIsi_lst_list, isN, fIx_sy0, fIx_sy1, ite_tt, ite_ff]
          simpa using hq
        | true =>
          rw [e2] at hq
          try simp only [aSeq, aSet, aC, aVar, aOp, aTest, aTru, aAnd, aOr, aNot, aAndV, aOrV, aNotV, aIfE, aNil, aCons, aTup, aLst, aLstB, aUn, aCa, aSl, aNo, aPart, aM, aML, aRet, aRetN, aIf, aDo, aNext, aCont, aBrk, aAsg, aCall, aCallX, aMeth, aFld, aSetFld, aFldAug, aAug, aRaise, aMake, aYes, kName, kCons, kNil, kSub, nth, put, wipeD, asT_b, fAdd_i, fAdd_s, fAdd_t, fAdd_l, fSub_i, fLt_i, fLe_i, fGt_i, fGe_i, fMul_i, fMod_i, fFdiv_i, fPow_i, fNeg_i, fEq_i, fEq_s, fEq_b, fNe_i, fNe_s, fNe_b, fIn_s, fNi_s, fIx_t0, fIx_t1, fIx_t2, fIx_l0, fIx_l1, fSl_s, fSl_t, fSl_l, fLen_t, fLen_l, fInt_i, fAbs_i, fMax_i, fMin_i, fTuple_t, fTuple_l, fList_t, fList_l, fRepS_s, seqOf_t, seqOf_l, truD_b, truD_t, truD_l, kTup_t, fIsN_n, fIsi_non_int, fIsi_non_bool, fIsi_non_str, fIsi_non_tuple, fIsi_non_list, fIsi_bl_int, fIsi_bl_bool, fIsi_bl_str, fIsi_bl_tuple, fIsi_bl_list, fIsi_int_int, fIsi_int_bool, fIsi_int_str, fIsi_int_tuple, fIsi_int_list, fIsi_str_int, fIsi_str_bool, fIsi_str_str, fIsi_str_tuple, fIsi_str_list, fIsi_tup_int, fIsi_tup_bool, fIsi_tup_str, fIsi_tup_tuple, fIsi_tup_list, fIsi_lst_int, fIsi_lst_bool, fIsi_lst_str, fIsi_lst_tuple, fIsi_lst_list, isN, fIx_sy0, fIx_sy1, ite_tt, ite_ff]
          simp only [Bool.not_true, Bool.false_eq_true, if_false]
          cases x with
          | str z =>
            cases n with
            | int i =>
              have e3 : silentOk (.str z) (.int i) = (!decide (z = DOT) || decide (i = 0)) := rfl
              rw [e3] at hq
              by_cases h : z = DOT
              · rw [decide_eq_true h] at hq
                try simp only [aSeq, aSet, aC, aVar, aOp, aTest, aTru, aAnd, aOr, aNot, aAndV, aOrV, aNotV, aIfE, aNil, aCons, aTup, aLst, aLstB, aUn, aCa, aSl, aNo, aPart, aM, aML, aRet, aRetN, aIf, aDo, aNext, aCont, aBrk, aAsg, aCall, aCallX, aMeth, aFld, aSetFld, aFldAug, aAug, aRaise, aMake, aYes, kName, kCons, kNil, kSub, nth, put, wipeD, asT_b, fAdd_i, fAdd_s, fAdd_t, fAdd_l, fSub_i, fLt_i, fLe_i, fGt_i, fGe_i, fMul_i, fMod_i, fFdiv_i, fPow_i, fNeg_i, fEq_i, fEq_s, fEq_b, fNe_i, fNe_s, fNe_b, fIn_s, fNi_s, fIx_t0, fIx_t1, fIx_t2, fIx_l0, fIx_l1, fSl_s, fSl_t, fSl_l, fLen_t, fLen_l, fInt_i, fAbs_i, fMax_i, fMin_i, fTuple_t, fTuple_l, fList_t, fList_l, fRepS_s, seqOf_t, seqOf_l, truD_b, truD_t, truD_l, kTup_t, fIsN_n, fIsi_non_int, fIsi_non_bool, fIsi_non_str, fIsi_non_tuple, fIsi_non_list, fIsi_bl_int, fIsi_bl_bool, fIsi_bl_str, fIsi_bl_tuple, fIsi_bl_list, fIsi_int_int, fIsi_int_bool, fIsi_int_str, fIsi_int_tuple, fIsi_int_list, fIsi_str_int, fIsi_str_bool, fIsi_str_str, fIsi_str_tuple, fIsi_str_list, fIsi_tup_int, fIsi_tup_bool, fIsi_tup_str, fIsi_tup_tuple, fIsi_tup_list, fIsi_lst_int, fIsi_lst_bool, fIsi_lst_str, fIsi_lst_tuple, fIsi_lst_list, isN, fIx_sy0, fIx_sy1, ite_tt, ite_ff]
                simp only [h, decide_true, Bool.not_true, Bool.false_eq_true, if_false]
                exact hq
              · rw [decide_eq_false h] at hq
                try simp only [aSeq, aSet, aC, aVar, aOp, aTest, aTru, aAnd, aOr, aNot, aAndV, aOrV, aNotV, aIfE, aNil, aCons, aTup, aLst, aLstB, aUn, aCa, aSl, aNo, aPart, aM, aML, aRet, aRetN, aIf, aDo, aNext, aCont, aBrk, aAsg, aCall, aCallX, aMeth, aFld, aSetFld, aFldAug, aAug, aRaise, aMake, aYes, kName, kCons, kNil, kSub, nth, put, wipeD, asT_b, fAdd_i, fAdd_s, fAdd_t, fAdd_l, fSub_i, fLt_i, fLe_i, fGt_i, fGe_i, fMul_i, fMod_i, fFdiv_i, fPow_i, fNeg_i, fEq_i, fEq_s, fEq_b, fNe_i, fNe_s, fNe_b, fIn_s, fNi_s, fIx_t0, fIx_t1, fIx_t2, fIx_l0, fIx_l1, fSl_s, fSl_t, fSl_l, fLen_t, fLen_l, fInt_i, fAbs_i, fMax_i, fMin_i, fTuple_t, fTuple_l, fList_t, fList_l, fRepS_s, seqOf_t, seqOf_l, truD_b, truD_t, truD_l, kTup_t, fIsN_n, fIsi_non_int, fIsi_non_bool, fIsi_non_str, fIsi_non_tuple, fIsi_non_list, fIsi_bl_int, fIsi_bl_bool, fIsi_bl_str, fIsi_bl_tuple, fIsi_bl_list, fIsi_int_int, fIsi_int_bool, fIsi_int_str, fIsi_int_tuple, fIsi_int_list, fIsi_str_int, fIsi_str_bool, fIsi_str_str, fIsi_str_tuple, fIsi_str_list, fIsi_tup_int, fIsi_tup_bool, fIsi_tup_str, fIsi_tup_tuple, fIsi_tup_list, fIsi_lst_int, fIsi_lst_bool, fIsi_lst_str, fIsi_lst_tuple, fIsi_lst_list, isN, fIx_sy0, fIx_sy1, ite_tt, ite_ff]
                simp only [h, decide_false, Bool.not_false, if_true]
                exact hq
            | _ => cases e2
          | _ => cases e1
  | _ =>
    first
    | (cases ht; done)
    | (refine cut_plain ?_
       simp only [aSeq, aSet, aC, aVar, aOp, aTest, aTru, aAnd, aOr, aNot, aAndV, aOrV, aNotV, aIfE, aNil, aCons, aTup, aLst, aLstB, aUn, aCa, aSl, aNo, aPart, aM, aML, aRet, aRetN, aIf, aDo, aNext, aCont, aBrk, aAsg, aCall, aCallX, aMeth, aFld, aSetFld, aFldAug, aAug, aRaise, aMake, aYes, kName, kCons, kNil, kSub, nth, put, wipeD, asT_b, fAdd_i, fAdd_s, fAdd_t, fAdd_l, fSub_i, fLt_i, fLe_i, fGt_i, fGe_i, fMul_i, fMod_i, fFdiv_i, fPow_i, fNeg_i, fEq_i, fEq_s, fEq_b, fNe_i, fNe_s, fNe_b, fIn_s, fNi_s, fIx_t0, fIx_t1, fIx_t2, fIx_l0, fIx_l1, fSl_s, fSl_t, fSl_l, fLen_t, fLen_l, fInt_i, fAbs_i, fMax_i, fMin_i, fTuple_t, fTuple_l, fList_t, fList_l, fRepS_s, seqOf_t, seqOf_l, truD_b, truD_t, truD_l, kTup_t, fIsN_n, fIsi_non_int, fIsi_non_bool, fIsi_non_str, fIsi_non_tuple, fIsi_non_list, fIsi_bl_int, fIsi_bl_bool, fIsi_bl_str, fIsi_bl_tuple, fIsi_bl_list, fIsi_int_int, fIsi_int_bool, fIsi_int_str, fIsi_int_tuple, fIsi_int_list, fIsi_str_int, fIsi_str_bool, fIsi_str_str, fIsi_str_tuple, fIsi_str_list, fIsi_tup_int, fIsi_tup_bool, fIsi_tup_str, fIsi_tup_tuple, fIsi_tup_list, fIsi_lst_int, fIsi_lst_bool, fIsi_lst_str, fIsi_lst_tuple, fIsi_lst_list, isN, fIx_sy0, fIx_sy1, ite_tt, ite_ff]
       simp
       exact hq)
def nOf (d : D) : Int := match d with
  | .tup [_, .int n] => n
  | _ => 0
def shapeD : D := .tup [.str "shape", .int (-1)]
def flt : List D → Nat → Int → D
  | [], k, mi => if mi = 0 then .non else .tup [.str "end", .int (k : Int)]
  | e :: r, k, mi => if mi = 0 then .tup [.str "behind", .int (k : Int)] else if isSymD e = true then flt r (k + 1) (mi + (nOf e - 1)) else .tup [.str "symbol", .int (k : Int)]
def faultD : D → D
  | .tup [] => shapeD
  | .tup (e :: r) => flt (e :: r) 0 1
  | _ => shapeD
def fitT : D → Bool
  | .tup es => decide (es.length ≤ 1000) && es.all fitE
  | d => top? d
theorem sym_n {e : D} (h : isSymD e = true) : ∃ z n, e = .tup [.str z, .int n] ∧ nOf e = n := by
  unfold isSymD at h
  split at h
  · rename_i w n
    cases w with
    | str z =>
      cases n with
      | int i => exact ⟨z, i, rfl, rfl⟩
      | _ => simp [isNum] at h
    | _ => simp [isWordD] at h
  · cases h
def sp_is_hole : ASp := fun _ _ _ _ => False
def sp_fault_of : ASp := fun ds m P _ => ∃ d, ds = [d, .bl false] ∧ fitT d = true ∧ P (faultD d) m
theorem rd_fault_of : ∀ ds m Q W, sp_fault_of ds m Q W → b_fault_of sp_is_hole sp_is_symbol W { nx := fun _ m' => fzE K Q .non m', rt := fzE K Q } (ds.map some ++ List.replicate (N_fault_of.length - ds.length) none) m := by
  rintro ds m Q W ⟨d, rfl, ht, hq⟩
  change b_fault_of _ _ W _ [some d, some (.bl false), none, none, none] m
  unfold b_fault_of
  have hq := fzE.of (K := K) hq
  cases d with
  | tup es =>
    refine cut_plain ?_
    match es, ht, hq with
    | [], ht, hq =>
      simp only [aSeq, aSet, aC, aVar, aOp, aTest, aTru, aAnd, aOr, aNot, aAndV, aOrV, aNotV, aIfE, aNil, aCons, aTup, aLst, aLstB, aUn, aCa, aSl, aNo, aPart, aM, aML, aRet, aRetN, aIf, aDo, aNext, aCont, aBrk, aAsg, aCall, aCallX, aMeth, aFld, aSetFld, aFldAug, aAug, aRaise, aMake, aYes, kName, kCons, kNil, kSub, nth, put, wipeD, asT_b, fAdd_i, fAdd_s, fAdd_t, fAdd_l, fSub_i, fLt_i, fLe_i, fGt_i, fGe_i, fMul_i, fMod_i, fFdiv_i, fPow_i, fNeg_i, fEq_i, fEq_s, fEq_b, fNe_i, fNe_s, fNe_b, fIn_s, fNi_s, fIx_t0, fIx_t1, fIx_t2, fIx_l0, fIx_l1, fSl_s, fSl_t, fSl_l, fLen_t, fLen_l, fInt_i, fAbs_i, fMax_i, fMin_i, fTuple_t, fTuple_l, fList_t, fList_l, fRepS_s, seqOf_t, seqOf_l, truD_b, truD_t, truD_l, kTup_t, fIsN_n, fIsi_non_int, fIsi_non_bool, fIsi_non_str, fIsi_non_tuple, fIsi_non_list, fIsi_bl_int, fIsi_bl_bool, fIsi_bl_str, fIsi_bl_tuple, fIsi_bl_list, fIsi_int_int, fIsi_int_bool, fIsi_int_str, fIsi_int_tuple, fIsi_int_list, fIsi_str_int, fIsi_str_bool, fIsi_str_str, fIsi_str_tuple, fIsi_str_list, fIsi_tup_int, fIsi_tup_bool, fIsi_tup_str, fIsi_tup_tuple, fIsi_tup_list, fIsi_lst_int, fIsi_lst_bool, fIsi_lst_str, fIsi_lst_tuple, fIsi_lst_list, isN, fIx_sy0, fIx_sy1, ite_tt, ite_ff]
      simp
      exact hq
    | e0 :: r0, ht, hq =>
      have hes : (e0 :: r0).length ≤ 1000 ∧ ∀ x ∈ (e0 :: r0), fitE x = true := by simpa [fitT] using ht
      have hF : faultD (.tup (e0 :: r0)) = flt (e0 :: r0) 0 1 := rfl
      rw [hF] at hq
      have hne : (e0 :: r0).isEmpty = false := rfl
      generalize e0 :: r0 = es at hes hq hne
      simp only [aSeq, aSet, aC, aVar, aOp, aTest, aTru, aAnd, aOr, aNot, aAndV, aOrV, aNotV, aIfE, aNil, aCons, aTup, aLst, aLstB, aUn, aCa, aSl, aNo, aPart, aM, aML, aRet, aRetN, aIf, aDo, aNext, aCont, aBrk, aAsg, aCall, aCallX, aMeth, aFld, aSetFld, aFldAug, aAug, aRaise, aMake, aYes, kName, kCons, kNil, kSub, nth, put, wipeD, asT_b, fAdd_i, fAdd_s, fAdd_t, fAdd_l, fSub_i, fLt_i, fLe_i, fGt_i, fGe_i, fMul_i, fMod_i, fFdiv_i, fPow_i, fNeg_i, fEq_i, fEq_s, fEq_b, fNe_i, fNe_s, fNe_b, fIn_s, fNi_s, fIx_t0, fIx_t1, fIx_t2, fIx_l0, fIx_l1, fSl_s, fSl_t, fSl_l, fLen_t, fLen_l, fInt_i, fAbs_i, fMax_i, fMin_i, fTuple_t, fTuple_l, fList_t, fList_l, fRepS_s, seqOf_t, seqOf_l, truD_b, truD_t, truD_l, kTup_t, fIsN_n, fIsi_non_int, fIsi_non_bool, fIsi_non_str, fIsi_non_tuple, fIsi_non_list, fIsi_bl_int, fIsi_bl_bool, fIsi_bl_str, fIsi_bl_tuple, fIsi_bl_list, fIsi_int_int, fIsi_int_bool, fIsi_int_str, fIsi_int_tuple, fIsi_int_list, fIsi_str_int, fIsi_str_bool, fIsi_str_str, fIsi_str_tuple, fIsi_str_list, fIsi_tup_int, fIsi_tup_bool, fIsi_tup_str, fIsi_tup_tuple, fIsi_tup_list, fIsi_lst_int, fIsi_lst_bool, fIsi_lst_str, fIsi_lst_tuple, fIsi_lst_list, isN, fIx_sy0, fIx_sy1, ite_tt, ite_ff, hne]
      simp only [Bool.not_true, Bool.not_false, Bool.false_eq_true, if_false]
      try simp only [aSeq, aSet, aC, aVar, aOp, aTest, aTru, aAnd, aOr, aNot, aAndV, aOrV, aNotV, aIfE, aNil, aCons, aTup, aLst, aLstB, aUn, aCa, aSl, aNo, aPart, aM, aML, aRet, aRetN, aIf, aDo, aNext, aCont, aBrk, aAsg, aCall, aCallX, aMeth, aFld, aSetFld, aFldAug, aAug, aRaise, aMake, aYes, kName, kCons, kNil, kSub, nth, put, wipeD, asT_b, fAdd_i, fAdd_s, fAdd_t, fAdd_l, fSub_i, fLt_i, fLe_i, fGt_i, fGe_i, fMul_i, fMod_i, fFdiv_i, fPow_i, fNeg_i, fEq_i, fEq_s, fEq_b, fNe_i, fNe_s, fNe_b, fIn_s, fNi_s, fIx_t0, fIx_t1, fIx_t2, fIx_l0, fIx_l1, fSl_s, fSl_t, fSl_l, fLen_t, fLen_l, fInt_i, fAbs_i, fMax_i, fMin_i, fTuple_t, fTuple_l, fList_t, fList_l, fRepS_s, seqOf_t, seqOf_l, truD_b, truD_t, truD_l, kTup_t, fIsN_n, fIsi_non_int, fIsi_non_bool, fIsi_non_str, fIsi_non_tuple, fIsi_non_list, fIsi_bl_int, fIsi_bl_bool, fIsi_bl_str, fIsi_bl_tuple, fIsi_bl_list, fIsi_int_int, fIsi_int_bool, fIsi_int_str, fIsi_int_tuple, fIsi_int_list, fIsi_str_int, fIsi_str_bool, fIsi_str_str, fIsi_str_tuple, fIsi_str_list, fIsi_tup_int, fIsi_tup_bool, fIsi_tup_str, fIsi_tup_tuple, fIsi_tup_list, fIsi_lst_int, fIsi_lst_bool, fIsi_lst_str, fIsi_lst_tuple, fIsi_lst_list, isN, fIx_sy0, fIx_sy1, ite_tt, ite_ff, aForE]
      refine ⟨.tup es, es, rfl, rfl, fun i g m' => m' = m ∧ ∃ mi a b, g = [some (.tup es), some (.bl false), some (.int mi), a, b] ∧ flt (es.drop i) i mi = flt es 0 1, ⟨rfl, 1, none, none, rfl, rfl⟩, fun i g m' _ h => by rw [h.1]; rfl, ?_, ?_⟩
      · rintro i g m' hi ⟨rfl, mi, a, b, rfl, hf⟩
        have eg : es[i]? = some es[i] := List.getElem?_eq_getElem hi
        have hd : es.drop i = es[i] :: es.drop (i + 1) := List.drop_eq_getElem_cons hi
        rw [hd] at hf
        rw [enD_is eg]
        simp only [aSeq, aSet, aC, aVar, aOp, aTest, aTru, aAnd, aOr, aNot, aAndV, aOrV, aNotV, aIfE, aNil, aCons, aTup, aLst, aLstB, aUn, aCa, aSl, aNo, aPart, aM, aML, aRet, aRetN, aIf, aDo, aNext, aCont, aBrk, aAsg, aCall, aCallX, aMeth, aFld, aSetFld, aFldAug, aAug, aRaise, aMake, aYes, kName, kCons, kNil, kSub, nth, put, wipeD, asT_b, fAdd_i, fAdd_s, fAdd_t, fAdd_l, fSub_i, fLt_i, fLe_i, fGt_i, fGe_i, fMul_i, fMod_i, fFdiv_i, fPow_i, fNeg_i, fEq_i, fEq_s, fEq_b, fNe_i, fNe_s, fNe_b, fIn_s, fNi_s, fIx_t0, fIx_t1, fIx_t2, fIx_l0, fIx_l1, fSl_s, fSl_t, fSl_l, fLen_t, fLen_l, fInt_i, fAbs_i, fMax_i, fMin_i, fTuple_t, fTuple_l, fList_t, fList_l, fRepS_s, seqOf_t, seqOf_l, truD_b, truD_t, truD_l, kTup_t, fIsN_n, fIsi_non_int, fIsi_non_bool, fIsi_non_str, fIsi_non_tuple, fIsi_non_list, fIsi_bl_int, fIsi_bl_bool, fIsi_bl_str, fIsi_bl_tuple, fIsi_bl_list, fIsi_int_int, fIsi_int_bool, fIsi_int_str, fIsi_int_tuple, fIsi_int_list, fIsi_str_int, fIsi_str_bool, fIsi_str_str, fIsi_str_tuple, fIsi_str_list, fIsi_tup_int, fIsi_tup_bool, fIsi_tup_str, fIsi_tup_tuple, fIsi_tup_list, fIsi_lst_int, fIsi_lst_bool, fIsi_lst_str, fIsi_lst_tuple, fIsi_lst_list, isN, fIx_sy0, fIx_sy1, ite_tt, ite_ff]
        refine ⟨rfl, trivial, cut_plain ?_⟩
        try simp only [aSeq, aSet, aC, aVar, aOp, aTest, aTru, aAnd, aOr, aNot, aAndV, aOrV, aNotV, aIfE, aNil, aCons, aTup, aLst, aLstB, aUn, aCa, aSl, aNo, aPart, aM, aML, aRet, aRetN, aIf, aDo, aNext, aCont, aBrk, aAsg, aCall, aCallX, aMeth, aFld, aSetFld, aFldAug, aAug, aRaise, aMake, aYes, kName, kCons, kNil, kSub, nth, put, wipeD, asT_b, fAdd_i, fAdd_s, fAdd_t, fAdd_l, fSub_i, fLt_i, fLe_i, fGt_i, fGe_i, fMul_i, fMod_i, fFdiv_i, fPow_i, fNeg_i, fEq_i, fEq_s, fEq_b, fNe_i, fNe_s, fNe_b, fIn_s, fNi_s, fIx_t0, fIx_t1, fIx_t2, fIx_l0, fIx_l1, fSl_s, fSl_t, fSl_l, fLen_t, fLen_l, fInt_i, fAbs_i, fMax_i, fMin_i, fTuple_t, fTuple_l, fList_t, fList_l, fRepS_s, seqOf_t, seqOf_l, truD_b, truD_t, truD_l, kTup_t, fIsN_n, fIsi_non_int, fIsi_non_bool, fIsi_non_str, fIsi_non_tuple, fIsi_non_list, fIsi_bl_int, fIsi_bl_bool, fIsi_bl_str, fIsi_bl_tuple, fIsi_bl_list, fIsi_int_int, fIsi_int_bool, fIsi_int_str, fIsi_int_tuple, fIsi_int_list, fIsi_str_int, fIsi_str_bool, fIsi_str_str, fIsi_str_tuple, fIsi_str_list, fIsi_tup_int, fIsi_tup_bool, fIsi_tup_str, fIsi_tup_tuple, fIsi_tup_list, fIsi_lst_int, fIsi_lst_bool, fIsi_lst_str, fIsi_lst_tuple, fIsi_lst_list, isN, fIx_sy0, fIx_sy1, ite_tt, ite_ff]
        by_cases h0 : mi = 0
        · subst h0
          simp
          have e : flt (es[i] :: es.drop (i + 1)) i 0 = .tup [.str "behind", .int (i : Int)] := rfl
          rw [← hf, e] at hq
          exact hq
        · simp only [h0, decide_false, Bool.false_eq_true, if_false]
          try simp only [aSeq, aSet, aC, aVar, aOp, aTest, aTru, aAnd, aOr, aNot, aAndV, aOrV, aNotV, aIfE, aNil, aCons, aTup, aLst, aLstB, aUn, aCa, aSl, aNo, aPart, aM, aML, aRet, aRetN, aIf, aDo, aNext, aCont, aBrk, aAsg, aCall, aCallX, aMeth, aFld, aSetFld, aFldAug, aAug, aRaise, aMake, aYes, kName, kCons, kNil, kSub, nth, put, wipeD, asT_b, fAdd_i, fAdd_s, fAdd_t, fAdd_l, fSub_i, fLt_i, fLe_i, fGt_i, fGe_i, fMul_i, fMod_i, fFdiv_i, fPow_i, fNeg_i, fEq_i, fEq_s, fEq_b, fNe_i, fNe_s, fNe_b, fIn_s, fNi_s, fIx_t0, fIx_t1, fIx_t2, fIx_l0, fIx_l1, fSl_s, fSl_t, fSl_l, fLen_t, fLen_l, fInt_i, fAbs_i, fMax_i, fMin_i, fTuple_t, fTuple_l, fList_t, fList_l, fRepS_s, seqOf_t, seqOf_l, truD_b, truD_t, truD_l, kTup_t, fIsN_n, fIsi_non_int, fIsi_non_bool, fIsi_non_str, fIsi_non_tuple, fIsi_non_list, fIsi_bl_int, fIsi_bl_bool, fIsi_bl_str, fIsi_bl_tuple, fIsi_bl_list, fIsi_int_int, fIsi_int_bool, fIsi_int_str, fIsi_int_tuple, fIsi_int_list, fIsi_str_int, fIsi_str_bool, fIsi_str_str, fIsi_str_tuple, fIsi_str_list, fIsi_tup_int, fIsi_tup_bool, fIsi_tup_str, fIsi_tup_tuple, fIsi_tup_list, fIsi_lst_int, fIsi_lst_bool, fIsi_lst_str, fIsi_lst_tuple, fIsi_lst_list, isN, fIx_sy0, fIx_sy1, ite_tt, ite_ff]
          refine ⟨es[i], rfl, hes.2 _ (List.getElem_mem hi), ?_⟩
          have e : flt (es[i] :: es.drop (i + 1)) i mi = if isSymD es[i] = true then flt (es.drop (i + 1)) (i + 1) (mi + (nOf es[i] - 1)) else .tup [.str "symbol", .int (i : Int)] := by
            show (if mi = 0 then _ else _) = _
            rw [if_neg h0]
          rw [e] at hf
          try simp only [aSeq, aSet, aC, aVar, aOp, aTest, aTru, aAnd, aOr, aNot, aAndV, aOrV, aNotV, aIfE, aNil, aCons, aTup, aLst, aLstB, aUn, aCa, aSl, aNo, aPart, aM, aML, aRet, aRetN, aIf, aDo, aNext, aCont, aBrk, aAsg, aCall, aCallX, aMeth, aFld, aSetFld, aFldAug, aAug, aRaise, aMake, aYes, kName, kCons, kNil, kSub, nth, put, wipeD, asT_b, fAdd_i, fAdd_s, fAdd_t, fAdd_l, fSub_i, fLt_i, fLe_i, fGt_i, fGe_i, fMul_i, fMod_i, fFdiv_i, fPow_i, fNeg_i, fEq_i, fEq_s, fEq_b, fNe_i, fNe_s, fNe_b, fIn_s, fNi_s, fIx_t0, fIx_t1, fIx_t2, fIx_l0, fIx_l1, fSl_s, fSl_t, fSl_l, fLen_t, fLen_l, fInt_i, fAbs_i, fMax_i, fMin_i, fTuple_t, fTuple_l, fList_t, fList_l, fRepS_s, seqOf_t, seqOf_l, truD_b, truD_t, truD_l, kTup_t, fIsN_n, fIsi_non_int, fIsi_non_bool, fIsi_non_str, fIsi_non_tuple, fIsi_non_list, fIsi_bl_int, fIsi_bl_bool, fIsi_bl_str, fIsi_bl_tuple, fIsi_bl_list, fIsi_int_int, fIsi_int_bool, fIsi_int_str, fIsi_int_tuple, fIsi_int_list, fIsi_str_int, fIsi_str_bool, fIsi_str_str, fIsi_str_tuple, fIsi_str_list, fIsi_tup_int, fIsi_tup_bool, fIsi_tup_str, fIsi_tup_tuple, fIsi_tup_list, fIsi_lst_int, fIsi_lst_bool, fIsi_lst_str, fIsi_lst_tuple, fIsi_lst_list, isN, fIx_sy0, fIx_sy1, ite_tt, ite_ff]
          cases e1 : isSymD es[i] with
          | true =>
            rw [if_pos e1] at hf
            obtain ⟨z, n, e2, e3⟩ := sym_n e1
            rw [e3] at hf
            rw [e2]
            try simp only [aSeq, aSet, aC, aVar, aOp, aTest, aTru, aAnd, aOr, aNot, aAndV, aOrV, aNotV, aIfE, aNil, aCons, aTup, aLst, aLstB, aUn, aCa, aSl, aNo, aPart, aM, aML, aRet, aRetN, aIf, aDo, aNext, aCont, aBrk, aAsg, aCall, aCallX, aMeth, aFld, aSetFld, aFldAug, aAug, aRaise, aMake, aYes, kName, kCons, kNil, kSub, nth, put, wipeD, asT_b, fAdd_i, fAdd_s, fAdd_t, fAdd_l, fSub_i, fLt_i, fLe_i, fGt_i, fGe_i, fMul_i, fMod_i, fFdiv_i, fPow_i, fNeg_i, fEq_i, fEq_s, fEq_b, fNe_i, fNe_s, fNe_b, fIn_s, fNi_s, fIx_t0, fIx_t1, fIx_t2, fIx_l0, fIx_l1, fSl_s, fSl_t, fSl_l, fLen_t, fLen_l, fInt_i, fAbs_i, fMax_i, fMin_i, fTuple_t, fTuple_l, fList_t, fList_l, fRepS_s, seqOf_t, seqOf_l, truD_b, truD_t, truD_l, kTup_t, fIsN_n, fIsi_non_int, fIsi_non_bool, fIsi_non_str, fIsi_non_tuple, fIsi_non_list, fIsi_bl_int, fIsi_bl_bool, fIsi_bl_str, fIsi_bl_tuple, fIsi_bl_list, fIsi_int_int, fIsi_int_bool, fIsi_int_str, fIsi_int_tuple, fIsi_int_list, fIsi_str_int, fIsi_str_bool, fIsi_str_str, fIsi_str_tuple, fIsi_str_list, fIsi_tup_int, fIsi_tup_bool, fIsi_tup_str, fIsi_tup_tuple, fIsi_tup_list, fIsi_lst_int, fIsi_lst_bool, fIsi_lst_str, fIsi_lst_tuple, fIsi_lst_list, isN, fIx_sy0, fIx_sy1, ite_tt, ite_ff]
            try simp only [if_true]
            exact ⟨by trivial, _, _, _, by trivial, hf⟩
          | false =>
            rw [if_neg (by rw [e1]; decide)] at hf
            try simp only [aSeq, aSet, aC, aVar, aOp, aTest, aTru, aAnd, aOr, aNot, aAndV, aOrV, aNotV, aIfE, aNil, aCons, aTup, aLst, aLstB, aUn, aCa, aSl, aNo, aPart, aM, aML, aRet, aRetN, aIf, aDo, aNext, aCont, aBrk, aAsg, aCall, aCallX, aMeth, aFld, aSetFld, aFldAug, aAug, aRaise, aMake, aYes, kName, kCons, kNil, kSub, nth, put, wipeD, asT_b, fAdd_i, fAdd_s, fAdd_t, fAdd_l, fSub_i, fLt_i, fLe_i, fGt_i, fGe_i, fMul_i, fMod_i, fFdiv_i, fPow_i, fNeg_i, fEq_i, fEq_s, fEq_b, fNe_i, fNe_s, fNe_b, fIn_s, fNi_s, fIx_t0, fIx_t1, fIx_t2, fIx_l0, fIx_l1, fSl_s, fSl_t, fSl_l, fLen_t, fLen_l, fInt_i, fAbs_i, fMax_i, fMin_i, fTuple_t, fTuple_l, fList_t, fList_l, fRepS_s, seqOf_t, seqOf_l, truD_b, truD_t, truD_l, kTup_t, fIsN_n, fIsi_non_int, fIsi_non_bool, fIsi_non_str, fIsi_non_tuple, fIsi_non_list, fIsi_bl_int, fIsi_bl_bool, fIsi_bl_str, fIsi_bl_tuple, fIsi_bl_list, fIsi_int_int, fIsi_int_bool, fIsi_int_str, fIsi_int_tuple, fIsi_int_list, fIsi_str_int, fIsi_str_bool, fIsi_str_str, fIsi_str_tuple, fIsi_str_list, fIsi_tup_int, fIsi_tup_bool, fIsi_tup_str, fIsi_tup_tuple, fIsi_tup_list, fIsi_lst_int, fIsi_lst_bool, fIsi_lst_str, fIsi_lst_tuple, fIsi_lst_list, isN, fIx_sy0, fIx_sy1, ite_tt, ite_ff]
            try simp only [Bool.false_eq_true, if_false]
            rw [← hf] at hq
            exact ⟨by simp, hq⟩
      · rintro g m' ⟨rfl, mi, a, b, rfl, hf⟩
        rw [List.drop_length] at hf
        have e : flt [] es.length mi = if mi = 0 then .non else .tup [.str "end", .int (es.length : Int)] := rfl
        rw [e] at hf
        rw [← hf] at hq
        simp only [aSeq, aSet, aC, aVar, aOp, aTest, aTru, aAnd, aOr, aNot, aAndV, aOrV, aNotV, aIfE, aNil, aCons, aTup, aLst, aLstB, aUn, aCa, aSl, aNo, aPart, aM, aML, aRet, aRetN, aIf, aDo, aNext, aCont, aBrk, aAsg, aCall, aCallX, aMeth, aFld, aSetFld, aFldAug, aAug, aRaise, aMake, aYes, kName, kCons, kNil, kSub, nth, put, wipeD, asT_b, fAdd_i, fAdd_s, fAdd_t, fAdd_l, fSub_i, fLt_i, fLe_i, fGt_i, fGe_i, fMul_i, fMod_i, fFdiv_i, fPow_i, fNeg_i, fEq_i, fEq_s, fEq_b, fNe_i, fNe_s, fNe_b, fIn_s, fNi_s, fIx_t0, fIx_t1, fIx_t2, fIx_l0, fIx_l1, fSl_s, fSl_t, fSl_l, fLen_t, fLen_l, fInt_i, fAbs_i, fMax_i, fMin_i, fTuple_t, fTuple_l, fList_t, fList_l, fRepS_s, seqOf_t, seqOf_l, truD_b, truD_t, truD_l, kTup_t, fIsN_n, fIsi_non_int, fIsi_non_bool, fIsi_non_str, fIsi_non_tuple, fIsi_non_list, fIsi_bl_int, fIsi_bl_bool, fIsi_bl_str, fIsi_bl_tuple, fIsi_bl_list, fIsi_int_int, fIsi_int_bool, fIsi_int_str, fIsi_int_tuple, fIsi_int_list, fIsi_str_int, fIsi_str_bool, fIsi_str_str, fIsi_str_tuple, fIsi_str_list, fIsi_tup_int, fIsi_tup_bool, fIsi_tup_str, fIsi_tup_tuple, fIsi_tup_list, fIsi_lst_int, fIsi_lst_bool, fIsi_lst_str, fIsi_lst_tuple, fIsi_lst_list, isN, fIx_sy0, fIx_sy1, ite_tt, ite_ff]
        by_cases h0 : mi = 0
        · rw [if_pos h0] at hq
          rw [if_pos (decide_eq_true h0)]
          exact hq
        · rw [if_neg h0] at hq
          rw [if_neg (by simpa using h0)]
          exact ⟨by simp, hq⟩
  | _ =>
    first
    | (cases ht; done)
    | (refine cut_plain ?_
       simp only [aSeq, aSet, aC, aVar, aOp, aTest, aTru, aAnd, aOr, aNot, aAndV, aOrV, aNotV, aIfE, aNil, aCons, aTup, aLst, aLstB, aUn, aCa, aSl, aNo, aPart, aM, aML, aRet, aRetN, aIf, aDo, aNext, aCont, aBrk, aAsg, aCall, aCallX, aMeth, aFld, aSetFld, aFldAug, aAug, aRaise, aMake, aYes, kName, kCons, kNil, kSub, nth, put, wipeD, asT_b, fAdd_i, fAdd_s, fAdd_t, fAdd_l, fSub_i, fLt_i, fLe_i, fGt_i, fGe_i, fMul_i, fMod_i, fFdiv_i, fPow_i, fNeg_i, fEq_i, fEq_s, fEq_b, fNe_i, fNe_s, fNe_b, fIn_s, fNi_s, fIx_t0, fIx_t1, fIx_t2, fIx_l0, fIx_l1, fSl_s, fSl_t, fSl_l, fLen_t, fLen_l, fInt_i, fAbs_i, fMax_i, fMin_i, fTuple_t, fTuple_l, fList_t, fList_l, fRepS_s, seqOf_t, seqOf_l, truD_b, truD_t, truD_l, kTup_t, fIsN_n, fIsi_non_int, fIsi_non_bool, fIsi_non_str, fIsi_non_tuple, fIsi_non_list, fIsi_bl_int, fIsi_bl_bool, fIsi_bl_str, fIsi_bl_tuple, fIsi_bl_list, fIsi_int_int, fIsi_int_bool, fIsi_int_str, fIsi_int_tuple, fIsi_int_list, fIsi_str_int, fIsi_str_bool, fIsi_str_str, fIsi_str_tuple, fIsi_str_list, fIsi_tup_int, fIsi_tup_bool, fIsi_tup_str, fIsi_tup_tuple, fIsi_tup_list, fIsi_lst_int, fIsi_lst_bool, fIsi_lst_str, fIsi_lst_tuple, fIsi_lst_list, isN, fIx_sy0, fIx_sy1, ite_tt, ite_ff]
       simp
       exact hq)
def treeB (d : D) : Bool := decide (isN (faultD d) = some true)
def sp_is_tree : ASp := fun ds m P _ => ∃ d, ds = [d] ∧ fitT d = true ∧ P (.bl (treeB d)) m
theorem rd_is_tree : ∀ ds m Q W, sp_is_tree ds m Q W → b_is_tree sp_fault_of W { nx := fun _ m' => fzE K Q .non m', rt := fzE K Q } (ds.map some ++ List.replicate (N_is_tree.length - ds.length) none) m := by
  rintro ds m Q W ⟨d, rfl, ht, hq⟩
  change b_is_tree sp_fault_of W _ [some d] m
  unfold b_is_tree
  simp only [aRet, aIsN, aCall, aCons, aNil, aVar, aC, nth]
  exact ⟨d, rfl, ht, fzE.of hq⟩
end AL
set_option maxHeartbeats 4000000
namespace AL
open PySem L2 Evl
variable {K : PySem.W.Frag}
/-! ### rows of symbols as trees -/
structure Tree (r : List Sy) : Prop where
  wh : whole r
  good : ∀ s ∈ r, goodSy s
  few : r.length ≤ 500
instance (r : List Sy) : Decidable (whole r) := by
  unfold whole
  infer_instance
theorem low_in {c : Nat} (h : low c) : c ∈ LETS.cps.toList := by
  have z : ∀ n, n < 26 → 97 + n ∈ LETS.cps.toList := by decide
  obtain ⟨h1, h2⟩ := h
  have := z (c - 97) (by omega)
  rwa [show 97 + (c - 97) = c by omega] at this
theorem wsg_in {c : Nat} (h : wsg c) : c ∈ SIGS.cps.toList := by
  have z : ∀ n, n < 26 → 97 + n ∈ SIGS.cps.toList := by decide
  have y : ∀ n, n < 10 → 48 + n ∈ SIGS.cps.toList := by decide
  rcases h with ⟨h1, h2⟩ | ⟨h1, h2⟩ | rfl
  · have := z (c - 97) (by omega)
    rwa [show 97 + (c - 97) = c by omega] at this
  · have := y (c - 48) (by omega)
    rwa [show 48 + (c - 48) = c by omega] at this
  · decide
theorem word_len {w : List Nat} (h : okWord w) : 1 ≤ w.length ∧ w.length ≤ 16 := by
  rcases h with rfl | ⟨c, r, rfl, _, _, h⟩
  · decide
  · rw [List.length_cons]
    omega
theorem word_ok {w : List Nat} (h : okWord w) : wordS (tx w) = true := by
  have hl := word_len h
  unfold wordS
  rw [tx_len, decide_eq_true hl, tx_cps]
  rcases h with rfl | ⟨c, r, rfl, h1, h2, _⟩
  · decide
  · have e : wordL (c :: r) = true := by
      show (decide (c ∈ LETS.cps.toList) && (c :: r).all fun x => decide (x ∈ SIGS.cps.toList)) = true
      rw [decide_eq_true (low_in h1), Bool.true_and, List.all_eq_true]
      intro x hx
      rcases List.mem_cons.mp hx with rfl | hx
      · exact decide_eq_true (wsg_in (.inl h1))
      · exact decide_eq_true (wsg_in (h2 x hx))
    rw [e, Bool.or_true]
    rfl
theorem dot_w {w : List Nat} (h : tx w = DOT) : w = [46] := by
  have : DOT = tx [46] := rfl
  rw [this] at h
  exact tx_inj.mp h
theorem sym_good {s : Sy} (h : goodSy s) : isSymD (syD s) = true ∧ fitE (syD s) = true ∧ nOf (syD s) = s.n := by
  obtain ⟨h1, h2, h3⟩ := h
  refine ⟨?_, ?_, rfl⟩
  · show ((wordS (tx s.w) && (decide (0 ≤ (s.n : Int)) && decide ((s.n : Int) ≤ ((4 : Nat) : Int)))) && (!decide (tx s.w = DOT) || decide ((s.n : Int) = 0))) = true
    rw [word_ok h1, decide_eq_true (by omega), decide_eq_true (by omega)]
    by_cases e : tx s.w = DOT
    · rw [h3 (dot_w e)]
      simp
    · simp [e]
  · show (decide ((tx s.w).length ≤ 1000000) && true) = true
    have := (word_len h1).2
    rw [tx_len, decide_eq_true (by omega)]
    rfl
theorem flt_rows : ∀ (r : List Sy) (k n : Nat), (∀ s ∈ r, goodSy s) → isN (flt (r.map syD) k (n : Int)) = some (decide (run r n = some 0))
  | [], k, n, _ => by
    show isN (if (n : Int) = 0 then .non else .tup [.str "end", .int (k : Int)]) = some (decide (some n = some 0))
    cases n with
    | zero => rfl
    | succ n =>
      rw [if_neg (by omega)]
      rfl
  | s :: r, k, 0, _ => rfl
  | s :: r, k, n + 1, h => by
    obtain ⟨h1, _, h3⟩ := sym_good (h s List.mem_cons_self)
    have e : flt ((s :: r).map syD) k ((n + 1 : Nat) : Int) = flt (r.map syD) (k + 1) ((n + s.n : Nat) : Int) := by
      show (if ((n + 1 : Nat) : Int) = 0 then _ else if isSymD (syD s) = true then flt (r.map syD) (k + 1) (((n + 1 : Nat) : Int) + (nOf (syD s) - 1)) else _) = _
      rw [if_neg (by omega), if_pos h1, h3]
      congr 1
      omega
    rw [e, flt_rows r (k + 1) (n + s.n) fun x hx => h x (List.mem_cons_of_mem _ hx)]
    rfl
theorem treeB_row {r : List Sy} (h : ∀ s ∈ r, goodSy s) : treeB (rowD r) = decide (whole r) := by
  cases r with
  | nil => rfl
  | cons s t =>
    have e : faultD (rowD (s :: t)) = flt ((s :: t).map syD) 0 1 := rfl
    unfold treeB
    rw [e, show (1 : Int) = ((1 : Nat) : Int) from rfl, flt_rows _ 0 1 h]
    unfold whole
    simp
theorem fit_row {r : List Sy} (h : ∀ s ∈ r, goodSy s) (hl : r.length ≤ 1000) : fitT (rowD r) = true := by
  show (decide ((r.map syD).length ≤ 1000) && (r.map syD).all fitE) = true
  rw [List.length_map, decide_eq_true hl, Bool.true_and, List.all_eq_true]
  intro x hx
  obtain ⟨s, hs, rfl⟩ := List.mem_map.mp hx
  exact (sym_good (h s hs)).2.1
theorem Tree.is {r : List Sy} (h : Tree r) : treeB (rowD r) = true ∧ fitT (rowD r) = true := by
  refine ⟨?_, fit_row h.good (by have := h.few; omega)⟩
  rw [treeB_row h.good]
  exact decide_eq_true h.wh
/-! ### parameters checked -/
def sp_need (C : Addr) : ASp := fun ds m P W => ∃ (b : Bool) (z : Str), ds = [.bl b, .str z] ∧ (b = true → P .non m) ∧ (b = false → W C [("at", .int (-1)), ("word", .str z)] m)
theorem rd_need {C : Addr} : ∀ ds m Q W, sp_need C ds m Q W → b_need C W { nx := fun _ m' => fzE K Q .non m', rt := fzE K Q } (ds.map some ++ List.replicate (N_need.length - ds.length) none) m := by
  rintro ds m Q W ⟨b, z, rfl, h1, h2⟩
  change b_need C W _ [some (.bl b), some (.str z)] m
  unfold b_need
  cases b
  · simp only [aSeq, aSet, aC, aVar, aOp, aTest, aTru, aAnd, aOr, aNot, aAndV, aOrV, aNotV, aIfE, aNil, aCons, aTup, aLst, aLstB, aUn, aCa, aSl, aNo, aPart, aM, aML, aRet, aRetN, aIf, aDo, aNext, aCont, aBrk, aAsg, aCall, aCallX, aMeth, aFld, aSetFld, aFldAug, aAug, aRaise, aMake, aYes, kName, kCons, kNil, kSub, nth, put, wipeD, asT_b, fAdd_i, fAdd_s, fAdd_t, fAdd_l, fSub_i, fLt_i, fLe_i, fGt_i, fGe_i, fMul_i, fMod_i, fFdiv_i, fPow_i, fNeg_i, fEq_i, fEq_s, fEq_b, fNe_i, fNe_s, fNe_b, fIn_s, fNi_s, fIx_t0, fIx_t1, fIx_t2, fIx_l0, fIx_l1, fSl_s, fSl_t, fSl_l, fLen_t, fLen_l, fInt_i, fAbs_i, fMax_i, fMin_i, fTuple_t, fTuple_l, fList_t, fList_l, fRepS_s, seqOf_t, seqOf_l, truD_b, truD_t, truD_l, kTup_t, fIsN_n, fIsi_non_int, fIsi_non_bool, fIsi_non_str, fIsi_non_tuple, fIsi_non_list, fIsi_bl_int, fIsi_bl_bool, fIsi_bl_str, fIsi_bl_tuple, fIsi_bl_list, fIsi_int_int, fIsi_int_bool, fIsi_int_str, fIsi_int_tuple, fIsi_int_list, fIsi_str_int, fIsi_str_bool, fIsi_str_str, fIsi_str_tuple, fIsi_str_list, fIsi_tup_int, fIsi_tup_bool, fIsi_tup_str, fIsi_tup_tuple, fIsi_tup_list, fIsi_lst_int, fIsi_lst_bool, fIsi_lst_str, fIsi_lst_tuple, fIsi_lst_list, isN, fIx_sy0, fIx_sy1, ite_tt, ite_ff]
    rw [if_pos (by rfl)]
    exact h2 rfl
  · simp only [aSeq, aSet, aC, aVar, aOp, aTest, aTru, aAnd, aOr, aNot, aAndV, aOrV, aNotV, aIfE, aNil, aCons, aTup, aLst, aLstB, aUn, aCa, aSl, aNo, aPart, aM, aML, aRet, aRetN, aIf, aDo, aNext, aCont, aBrk, aAsg, aCall, aCallX, aMeth, aFld, aSetFld, aFldAug, aAug, aRaise, aMake, aYes, kName, kCons, kNil, kSub, nth, put, wipeD, asT_b, fAdd_i, fAdd_s, fAdd_t, fAdd_l, fSub_i, fLt_i, fLe_i, fGt_i, fGe_i, fMul_i, fMod_i, fFdiv_i, fPow_i, fNeg_i, fEq_i, fEq_s, fEq_b, fNe_i, fNe_s, fNe_b, fIn_s, fNi_s, fIx_t0, fIx_t1, fIx_t2, fIx_l0, fIx_l1, fSl_s, fSl_t, fSl_l, fLen_t, fLen_l, fInt_i, fAbs_i, fMax_i, fMin_i, fTuple_t, fTuple_l, fList_t, fList_l, fRepS_s, seqOf_t, seqOf_l, truD_b, truD_t, truD_l, kTup_t, fIsN_n, fIsi_non_int, fIsi_non_bool, fIsi_non_str, fIsi_non_tuple, fIsi_non_list, fIsi_bl_int, fIsi_bl_bool, fIsi_bl_str, fIsi_bl_tuple, fIsi_bl_list, fIsi_int_int, fIsi_int_bool, fIsi_int_str, fIsi_int_tuple, fIsi_int_list, fIsi_str_int, fIsi_str_bool, fIsi_str_str, fIsi_str_tuple, fIsi_str_list, fIsi_tup_int, fIsi_tup_bool, fIsi_tup_str, fIsi_tup_tuple, fIsi_tup_list, fIsi_lst_int, fIsi_lst_bool, fIsi_lst_str, fIsi_lst_tuple, fIsi_lst_list, isN, fIx_sy0, fIx_sy1, ite_tt, ite_ff]
    rw [if_neg (by decide)]
    exact fzE.of (h1 rfl)
/-! ### the order -/
def sp_order_key : ASp := fun ds m P _ => ∃ es, ds = [.tup es] ∧ P (.tup [.int es.length, .tup es]) m
theorem rd_order_key : ∀ ds m Q W, sp_order_key ds m Q W → b_order_key W { nx := fun _ m' => fzE K Q .non m', rt := fzE K Q } (ds.map some ++ List.replicate (N_order_key.length - ds.length) none) m := by
  rintro ds m Q W ⟨es, rfl, hq⟩
  change b_order_key W _ [some (.tup es)] m
  unfold b_order_key
  simp only [aSeq, aSet, aC, aVar, aOp, aTest, aTru, aAnd, aOr, aNot, aAndV, aOrV, aNotV, aIfE, aNil, aCons, aTup, aLst, aLstB, aUn, aCa, aSl, aNo, aPart, aM, aML, aRet, aRetN, aIf, aDo, aNext, aCont, aBrk, aAsg, aCall, aCallX, aMeth, aFld, aSetFld, aFldAug, aAug, aRaise, aMake, aYes, kName, kCons, kNil, kSub, nth, put, wipeD, asT_b, fAdd_i, fAdd_s, fAdd_t, fAdd_l, fSub_i, fLt_i, fLe_i, fGt_i, fGe_i, fMul_i, fMod_i, fFdiv_i, fPow_i, fNeg_i, fEq_i, fEq_s, fEq_b, fNe_i, fNe_s, fNe_b, fIn_s, fNi_s, fIx_t0, fIx_t1, fIx_t2, fIx_l0, fIx_l1, fSl_s, fSl_t, fSl_l, fLen_t, fLen_l, fInt_i, fAbs_i, fMax_i, fMin_i, fTuple_t, fTuple_l, fList_t, fList_l, fRepS_s, seqOf_t, seqOf_l, truD_b, truD_t, truD_l, kTup_t, fIsN_n, fIsi_non_int, fIsi_non_bool, fIsi_non_str, fIsi_non_tuple, fIsi_non_list, fIsi_bl_int, fIsi_bl_bool, fIsi_bl_str, fIsi_bl_tuple, fIsi_bl_list, fIsi_int_int, fIsi_int_bool, fIsi_int_str, fIsi_int_tuple, fIsi_int_list, fIsi_str_int, fIsi_str_bool, fIsi_str_str, fIsi_str_tuple, fIsi_str_list, fIsi_tup_int, fIsi_tup_bool, fIsi_tup_str, fIsi_tup_tuple, fIsi_tup_list, fIsi_lst_int, fIsi_lst_bool, fIsi_lst_str, fIsi_lst_tuple, fIsi_lst_list, isN, fIx_sy0, fIx_sy1, ite_tt, ite_ff]
  exact ⟨by simp, fzE.of hq⟩
theorem pyDs_row (r : List Sy) : pyDs (r.map syD) = some (r.map syPy) := by
  rw [keyDs_py _ _ (keyDs_row r), datas_row]
def okD (r : List Sy) : D := .tup [.int (r.length : Int), rowD r]
theorem dataOf_key (m : Mu) (r : List Sy) : dataOf m (okD r) = some (rowKey r) := by
  show (match pyDs [.int (r.length : Int), rowD r] with
    | some xs => some (PyData.tuple xs)
    | none => none) = _
  have e : pyD (rowD r) = some (.tuple (r.map syPy)) := by
    show (match pyDs (r.map syD) with
      | some xs => some (PyData.tuple xs)
      | none => none) = _
    rw [pyDs_row]
  have e2 : pyDs [.int (r.length : Int), rowD r] = some [.int (r.length : Int), .tuple (r.map syPy)] := by
    show (match (match pyD (rowD r) with
      | some x => some [x]
      | none => none : Option (List PyData)) with
      | some xs => some (PyData.int (r.length : Int) :: xs)
      | none => none) = _
    rw [e]
  rw [e2]
  rfl
def otherE : List (Str × D) := [("at", .int (-1)), ("word", .str "other")]
def sp_is_ahead (C : Addr) : ASp := fun ds m P W => (∃ a b, ds = [rowD a, rowD b] ∧ Tree b ∧ P (.bl (ahead a b)) m) ∨ ∃ a d, ds = [rowD a, d] ∧ fitT d = true ∧ treeB d = false ∧ W C otherE m
theorem rd_is_ahead {C : Addr} : ∀ ds m Q W, sp_is_ahead C ds m Q W → b_is_ahead sp_is_tree (sp_need C) sp_order_key W { nx := fun _ m' => fzE K Q .non m', rt := fzE K Q } (ds.map some ++ List.replicate (N_is_ahead.length - ds.length) none) m := by
  rintro ds m Q W (⟨a, b, rfl, hb, hq⟩ | ⟨a, d, rfl, hf, ht, hw⟩)
  · change b_is_ahead _ _ _ W _ [some (rowD a), some (rowD b)] m
    unfold b_is_ahead
    obtain ⟨t1, t2⟩ := hb.is
    simp only [aSeq, aSet, aC, aVar, aOp, aTest, aTru, aAnd, aOr, aNot, aAndV, aOrV, aNotV, aIfE, aNil, aCons, aTup, aLst, aLstB, aUn, aCa, aSl, aNo, aPart, aM, aML, aRet, aRetN, aIf, aDo, aNext, aCont, aBrk, aAsg, aCall, aCallX, aMeth, aFld, aSetFld, aFldAug, aAug, aRaise, aMake, aYes, kName, kCons, kNil, kSub, nth, put, wipeD, asT_b, fAdd_i, fAdd_s, fAdd_t, fAdd_l, fSub_i, fLt_i, fLe_i, fGt_i, fGe_i, fMul_i, fMod_i, fFdiv_i, fPow_i, fNeg_i, fEq_i, fEq_s, fEq_b, fNe_i, fNe_s, fNe_b, fIn_s, fNi_s, fIx_t0, fIx_t1, fIx_t2, fIx_l0, fIx_l1, fSl_s, fSl_t, fSl_l, fLen_t, fLen_l, fInt_i, fAbs_i, fMax_i, fMin_i, fTuple_t, fTuple_l, fList_t, fList_l, fRepS_s, seqOf_t, seqOf_l, truD_b, truD_t, truD_l, kTup_t, fIsN_n, fIsi_non_int, fIsi_non_bool, fIsi_non_str, fIsi_non_tuple, fIsi_non_list, fIsi_bl_int, fIsi_bl_bool, fIsi_bl_str, fIsi_bl_tuple, fIsi_bl_list, fIsi_int_int, fIsi_int_bool, fIsi_int_str, fIsi_int_tuple, fIsi_int_list, fIsi_str_int, fIsi_str_bool, fIsi_str_str, fIsi_str_tuple, fIsi_str_list, fIsi_tup_int, fIsi_tup_bool, fIsi_tup_str, fIsi_tup_tuple, fIsi_tup_list, fIsi_lst_int, fIsi_lst_bool, fIsi_lst_str, fIsi_lst_tuple, fIsi_lst_list, isN, fIx_sy0, fIx_sy1, ite_tt, ite_ff]
    refine ⟨_, rfl, t2, ?_⟩
    rw [t1]
    refine ⟨true, "other", rfl, fun _ => ?_, (fun z => nomatch z)⟩
    refine ⟨a.map syD, rfl, b.map syD, rfl, ?_⟩
    have e1 : D.tup [.int ((a.map syD).length : Int), .tup (a.map syD)] = okD a := by rw [List.length_map]; rfl
    have e2 : D.tup [.int ((b.map syD).length : Int), .tup (b.map syD)] = okD b := by rw [List.length_map]; rfl
    rw [e1, e2]
    have dep := depth_key a
    exact ⟨_, _, dataOf_key m a, dataOf_key m b, alike_key a b, by unfold rowKey; exact (fun z => nomatch z), by omega, fzE.of hq⟩
  · change b_is_ahead _ _ _ W _ [some (rowD a), some d] m
    unfold b_is_ahead
    simp only [aSeq, aSet, aC, aVar, aOp, aTest, aTru, aAnd, aOr, aNot, aAndV, aOrV, aNotV, aIfE, aNil, aCons, aTup, aLst, aLstB, aUn, aCa, aSl, aNo, aPart, aM, aML, aRet, aRetN, aIf, aDo, aNext, aCont, aBrk, aAsg, aCall, aCallX, aMeth, aFld, aSetFld, aFldAug, aAug, aRaise, aMake, aYes, kName, kCons, kNil, kSub, nth, put, wipeD, asT_b, fAdd_i, fAdd_s, fAdd_t, fAdd_l, fSub_i, fLt_i, fLe_i, fGt_i, fGe_i, fMul_i, fMod_i, fFdiv_i, fPow_i, fNeg_i, fEq_i, fEq_s, fEq_b, fNe_i, fNe_s, fNe_b, fIn_s, fNi_s, fIx_t0, fIx_t1, fIx_t2, fIx_l0, fIx_l1, fSl_s, fSl_t, fSl_l, fLen_t, fLen_l, fInt_i, fAbs_i, fMax_i, fMin_i, fTuple_t, fTuple_l, fList_t, fList_l, fRepS_s, seqOf_t, seqOf_l, truD_b, truD_t, truD_l, kTup_t, fIsN_n, fIsi_non_int, fIsi_non_bool, fIsi_non_str, fIsi_non_tuple, fIsi_non_list, fIsi_bl_int, fIsi_bl_bool, fIsi_bl_str, fIsi_bl_tuple, fIsi_bl_list, fIsi_int_int, fIsi_int_bool, fIsi_int_str, fIsi_int_tuple, fIsi_int_list, fIsi_str_int, fIsi_str_bool, fIsi_str_str, fIsi_str_tuple, fIsi_str_list, fIsi_tup_int, fIsi_tup_bool, fIsi_tup_str, fIsi_tup_tuple, fIsi_tup_list, fIsi_lst_int, fIsi_lst_bool, fIsi_lst_str, fIsi_lst_tuple, fIsi_lst_list, isN, fIx_sy0, fIx_sy1, ite_tt, ite_ff]
    refine ⟨_, rfl, hf, ?_⟩
    rw [ht]
    exact ⟨false, "other", rfl, (fun z => nomatch z), fun _ => hw⟩
end AL
set_option maxHeartbeats 4000000
namespace AL
open PySem L2 Evl
variable {K : PySem.W.Frag}
/-! ### the least, in order -/
theorem rows_key {rows : List Rw} : (∀ e ∈ rows.map rowD, ∃ ks, keyD e = some (.tup ks)) ∧ (∀ e ∈ rows.map rowD, ∀ e' ∈ rows.map rowD, PySem.W.alike (dKey e) (dKey e') = true) ∧ (∀ e ∈ rows.map rowD, (dKey e).depth ≤ 60) := by
  refine ⟨fun e he => ?_, fun e he e' he' => ?_, fun e he => ?_⟩
  · obtain ⟨r, _, rfl⟩ := List.mem_map.mp he
    exact ⟨_, keyD_row r⟩
  · obtain ⟨r, _, rfl⟩ := List.mem_map.mp he
    obtain ⟨r', _, rfl⟩ := List.mem_map.mp he'
    rw [dKey_row, dKey_row]
    exact alike_key r r'
  · obtain ⟨r, _, rfl⟩ := List.mem_map.mp he
    rw [dKey_row]
    exact depth_key r
def rowsD (rows : List Rw) : D := .tup (rows.map rowD)
def sp_least_of : ASp := fun ds m P _ => ∃ rows : List Rw, ds = [rowsD rows] ∧ (rows = [] → P .non m) ∧ ∀ x, leastOf rows x → P (rowD x) m
theorem rd_least_of : ∀ ds m Q W, sp_least_of ds m Q W → b_least_of W { nx := fun _ m' => fzE K Q .non m', rt := fzE K Q } (ds.map some ++ List.replicate (N_least_of.length - ds.length) none) m := by
  rintro ds m Q W ⟨rows, rfl, h0, h1⟩
  change b_least_of W _ [some (rowsD rows)] m
  unfold b_least_of rowsD
  simp only [aRet, aMinK, aVar, aC, nth, fMinK, tupOf]
  obtain ⟨k1, k2, k3⟩ := rows_key (rows := rows)
  refine ⟨k1, k2, k3, ?_⟩
  cases rows with
  | nil => exact fzE.of (h0 rfl)
  | cons r t =>
    obtain ⟨x, hx, e⟩ := minD_rows (rows := r :: t) (by simp)
    have ne : ((r :: t).map rowD).isEmpty = false := rfl
    rw [ne, if_neg (by decide), e]
    exact fzE.of (h1 x hx)
def kdOf (l : List Rw) : KD := l.map fun r => (.tup (r.map syK), rowD r, .bl true)
theorem syK_inj : ∀ {a b : List Sy}, a.map syK = b.map syK → a = b
  | [], [], _ => rfl
  | [], t :: b, h => by simp at h
  | s :: a, [], h => by simp at h
  | s :: a, t :: b, h => by
    rw [List.map_cons, List.map_cons, List.cons.injEq] at h
    obtain ⟨w, n⟩ := s
    obtain ⟨w', n'⟩ := t
    have e : w = w' ∧ n = n' := by
      have := h.1
      simp only [syK, NestedKey.tup.injEq, List.cons.injEq, NestedKey.text.injEq, NestedKey.num.injEq, tx_inj] at this
      exact ⟨this.1, by omega⟩
    rw [e.1, e.2, syK_inj h.2]
theorem kd_mem {l : List Rw} {r : Rw} : NestedKey.tup (r.map syK) ∈ (kdOf l).map (·.1) ↔ r ∈ l := by
  unfold kdOf
  rw [List.map_map, List.mem_map]
  constructor
  · rintro ⟨x, hx, e⟩
    have e : NestedKey.tup (x.map syK) = .tup (r.map syK) := e
    rw [NestedKey.tup.injEq] at e
    rw [← syK_inj e]
    exact hx
  · intro h
    exact ⟨r, h, rfl⟩
theorem kd_sto (l : List Rw) (r : Rw) : stoD (kdOf l) (.tup (r.map syK)) (rowD r) (.bl true) = kdOf (dstep l r) := by
  unfold stoD dstep
  by_cases h : r ∈ l
  · rw [if_pos (kd_mem.mpr h), if_pos h]
    have e : ∀ p ∈ kdOf l, (if p.1 = NestedKey.tup (r.map syK) then (p.1, p.2.1, D.bl true) else p) = p := fun p hp => by
      unfold kdOf at hp
      obtain ⟨x, _, rfl⟩ := List.mem_map.mp hp
      split <;> rfl
    rw [List.map_congr_left e, List.map_id']
  · rw [if_neg fun z => h (kd_mem.mp z), if_neg h]
    unfold kdOf
    rw [List.map_append]
    rfl
theorem key_deep : ∀ r : List Sy, NestedKey.depthAll (r.map syK) ≤ 4
  | [] => by simp [NestedKey.depthAll]
  | s :: r => by
    have := key_deep r
    rw [List.map_cons]
    simp only [NestedKey.depthAll, syK, NestedKey.depth] at *
    omega
def sp_in_order : ASp := fun ds m P _ => ∃ rows : List Rw, ds = [rowsD rows] ∧ rows.length ≤ 5000 ∧ ∀ ch, IsChain rows ch → P (rowsD ch) m
theorem rd_in_order {Pr : Program} {w : World} : ∀ ds m Q W, sp_in_order ds m Q W → b_in_order Pr w W { nx := fun _ m' => fzE K Q .non m', rt := fzE K Q } (ds.map some ++ List.replicate (N_in_order.length - ds.length) none) m := by
  rintro ds m Q W ⟨rows, rfl, hl, hq⟩
  change b_in_order Pr w W _ [some (rowsD rows), none, none] m
  unfold b_in_order rowsD
  simp only [aSeq, aSet, aC, aVar, aOp, aTest, aTru, aAnd, aOr, aNot, aAndV, aOrV, aNotV, aIfE, aNil, aCons, aTup, aLst, aLstB, aUn, aCa, aSl, aNo, aPart, aM, aML, aRet, aRetN, aIf, aDo, aNext, aCont, aBrk, aAsg, aCall, aCallX, aMeth, aFld, aSetFld, aFldAug, aAug, aRaise, aMake, aYes, kName, kCons, kNil, kSub, nth, put, wipeD, asT_b, fAdd_i, fAdd_s, fAdd_t, fAdd_l, fSub_i, fLt_i, fLe_i, fGt_i, fGe_i, fMul_i, fMod_i, fFdiv_i, fPow_i, fNeg_i, fEq_i, fEq_s, fEq_b, fNe_i, fNe_s, fNe_b, fIn_s, fNi_s, fIx_t0, fIx_t1, fIx_t2, fIx_l0, fIx_l1, fSl_s, fSl_t, fSl_l, fLen_t, fLen_l, fInt_i, fAbs_i, fMax_i, fMin_i, fTuple_t, fTuple_l, fList_t, fList_l, fRepS_s, seqOf_t, seqOf_l, truD_b, truD_t, truD_l, kTup_t, fIsN_n, fIsi_non_int, fIsi_non_bool, fIsi_non_str, fIsi_non_tuple, fIsi_non_list, fIsi_bl_int, fIsi_bl_bool, fIsi_bl_str, fIsi_bl_tuple, fIsi_bl_list, fIsi_int_int, fIsi_int_bool, fIsi_int_str, fIsi_int_tuple, fIsi_int_list, fIsi_str_int, fIsi_str_bool, fIsi_str_str, fIsi_str_tuple, fIsi_str_list, fIsi_tup_int, fIsi_tup_bool, fIsi_tup_str, fIsi_tup_tuple, fIsi_tup_list, fIsi_lst_int, fIsi_lst_bool, fIsi_lst_str, fIsi_lst_tuple, fIsi_lst_list, isN, fIx_sy0, fIx_sy1, ite_tt, ite_ff, aDc]
  refine ⟨rows.map rowD, rfl, fun p hp => ⟨fun i acc m' => i ≤ rows.length ∧ acc = kdOf (dd (rows.take i)) ∧ m' = mset m p (.dic (DicO Pr w p) acc), ⟨Nat.zero_le _, rfl, rfl⟩, ⟨fun i acc m' hi h => ?_, fun i acc m' hi h => ?_⟩, fun acc m' h => ?_⟩⟩
  · obtain ⟨_, rfl, rfl⟩ := h
    refine ⟨rfl, mset_same, ?_, fun q hq => ?_⟩
    · have := dd_len (rows.take i)
      rw [List.length_take] at this
      unfold kdOf
      rw [List.length_map]
      omega
    · unfold kdOf at hq
      obtain ⟨x, _, rfl⟩ := List.mem_map.mp hq
      have := key_deep x
      show NestedKey.depthAll (x.map syK) + 1 ≤ 8
      omega
  · obtain ⟨_, rfl, rfl⟩ := h
    have hi : i < rows.length := by simpa using hi
    have e : (rows.map rowD).getD i .non = rowD rows[i] := by simp [hi]
    simp only [e]
    try simp only [aSeq, aSet, aC, aVar, aOp, aTest, aTru, aAnd, aOr, aNot, aAndV, aOrV, aNotV, aIfE, aNil, aCons, aTup, aLst, aLstB, aUn, aCa, aSl, aNo, aPart, aM, aML, aRet, aRetN, aIf, aDo, aNext, aCont, aBrk, aAsg, aCall, aCallX, aMeth, aFld, aSetFld, aFldAug, aAug, aRaise, aMake, aYes, kName, kCons, kNil, kSub, nth, put, wipeD, asT_b, fAdd_i, fAdd_s, fAdd_t, fAdd_l, fSub_i, fLt_i, fLe_i, fGt_i, fGe_i, fMul_i, fMod_i, fFdiv_i, fPow_i, fNeg_i, fEq_i, fEq_s, fEq_b, fNe_i, fNe_s, fNe_b, fIn_s, fNi_s, fIx_t0, fIx_t1, fIx_t2, fIx_l0, fIx_l1, fSl_s, fSl_t, fSl_l, fLen_t, fLen_l, fInt_i, fAbs_i, fMax_i, fMin_i, fTuple_t, fTuple_l, fList_t, fList_l, fRepS_s, seqOf_t, seqOf_l, truD_b, truD_t, truD_l, kTup_t, fIsN_n, fIsi_non_int, fIsi_non_bool, fIsi_non_str, fIsi_non_tuple, fIsi_non_list, fIsi_bl_int, fIsi_bl_bool, fIsi_bl_str, fIsi_bl_tuple, fIsi_bl_list, fIsi_int_int, fIsi_int_bool, fIsi_int_str, fIsi_int_tuple, fIsi_int_list, fIsi_str_int, fIsi_str_bool, fIsi_str_str, fIsi_str_tuple, fIsi_str_list, fIsi_tup_int, fIsi_tup_bool, fIsi_tup_str, fIsi_tup_tuple, fIsi_tup_list, fIsi_lst_int, fIsi_lst_bool, fIsi_lst_str, fIsi_lst_tuple, fIsi_lst_list, isN, fIx_sy0, fIx_sy1, ite_tt, ite_ff]
    have := key_deep rows[i]
    refine ⟨rows[i].map syK, keyD_row _, by show NestedKey.depthAll _ + 1 ≤ 8; omega, mset_same, hi, ?_, ?_⟩
    · rw [kd_sto, List.take_succ, List.getElem?_eq_getElem hi]
      show _ = kdOf (dd (rows.take i ++ [rows[i]]))
      rw [dd_snoc]
    · rw [mset_mset]
  · obtain ⟨_, rfl, rfl⟩ := h
    rw [List.length_map, List.take_length]
    try simp only [aSeq, aSet, aC, aVar, aOp, aTest, aTru, aAnd, aOr, aNot, aAndV, aOrV, aNotV, aIfE, aNil, aCons, aTup, aLst, aLstB, aUn, aCa, aSl, aNo, aPart, aM, aML, aRet, aRetN, aIf, aDo, aNext, aCont, aBrk, aAsg, aCall, aCallX, aMeth, aFld, aSetFld, aFldAug, aAug, aRaise, aMake, aYes, kName, kCons, kNil, kSub, nth, put, wipeD, asT_b, fAdd_i, fAdd_s, fAdd_t, fAdd_l, fSub_i, fLt_i, fLe_i, fGt_i, fGe_i, fMul_i, fMod_i, fFdiv_i, fPow_i, fNeg_i, fEq_i, fEq_s, fEq_b, fNe_i, fNe_s, fNe_b, fIn_s, fNi_s, fIx_t0, fIx_t1, fIx_t2, fIx_l0, fIx_l1, fSl_s, fSl_t, fSl_l, fLen_t, fLen_l, fInt_i, fAbs_i, fMax_i, fMin_i, fTuple_t, fTuple_l, fList_t, fList_l, fRepS_s, seqOf_t, seqOf_l, truD_b, truD_t, truD_l, kTup_t, fIsN_n, fIsi_non_int, fIsi_non_bool, fIsi_non_str, fIsi_non_tuple, fIsi_non_list, fIsi_bl_int, fIsi_bl_bool, fIsi_bl_str, fIsi_bl_tuple, fIsi_bl_list, fIsi_int_int, fIsi_int_bool, fIsi_int_str, fIsi_int_tuple, fIsi_int_list, fIsi_str_int, fIsi_str_bool, fIsi_str_str, fIsi_str_tuple, fIsi_str_list, fIsi_tup_int, fIsi_tup_bool, fIsi_tup_str, fIsi_tup_tuple, fIsi_tup_list, fIsi_lst_int, fIsi_lst_bool, fIsi_lst_str, fIsi_lst_tuple, fIsi_lst_list, isN, fIx_sy0, fIx_sy1, ite_tt, ite_ff]
    refine ⟨kdOf (dd rows), mset_same, ?_⟩
    have e1 : (kdOf (dd rows)).map (fun q => q.2.1) = (dd rows).map rowD := by
      unfold kdOf
      rw [List.map_map]
      rfl
    rw [e1]
    obtain ⟨k1, k2, k3⟩ := rows_key (rows := dd rows)
    simp only [fSortK, lstOf]
    refine ⟨k1, k2, k3, ?_⟩
    rw [sortD_rows]
    try simp only [aSeq, aSet, aC, aVar, aOp, aTest, aTru, aAnd, aOr, aNot, aAndV, aOrV, aNotV, aIfE, aNil, aCons, aTup, aLst, aLstB, aUn, aCa, aSl, aNo, aPart, aM, aML, aRet, aRetN, aIf, aDo, aNext, aCont, aBrk, aAsg, aCall, aCallX, aMeth, aFld, aSetFld, aFldAug, aAug, aRaise, aMake, aYes, kName, kCons, kNil, kSub, nth, put, wipeD, asT_b, fAdd_i, fAdd_s, fAdd_t, fAdd_l, fSub_i, fLt_i, fLe_i, fGt_i, fGe_i, fMul_i, fMod_i, fFdiv_i, fPow_i, fNeg_i, fEq_i, fEq_s, fEq_b, fNe_i, fNe_s, fNe_b, fIn_s, fNi_s, fIx_t0, fIx_t1, fIx_t2, fIx_l0, fIx_l1, fSl_s, fSl_t, fSl_l, fLen_t, fLen_l, fInt_i, fAbs_i, fMax_i, fMin_i, fTuple_t, fTuple_l, fList_t, fList_l, fRepS_s, seqOf_t, seqOf_l, truD_b, truD_t, truD_l, kTup_t, fIsN_n, fIsi_non_int, fIsi_non_bool, fIsi_non_str, fIsi_non_tuple, fIsi_non_list, fIsi_bl_int, fIsi_bl_bool, fIsi_bl_str, fIsi_bl_tuple, fIsi_bl_list, fIsi_int_int, fIsi_int_bool, fIsi_int_str, fIsi_int_tuple, fIsi_int_list, fIsi_str_int, fIsi_str_bool, fIsi_str_str, fIsi_str_tuple, fIsi_str_list, fIsi_tup_int, fIsi_tup_bool, fIsi_tup_str, fIsi_tup_tuple, fIsi_tup_list, fIsi_lst_int, fIsi_lst_bool, fIsi_lst_str, fIsi_lst_tuple, fIsi_lst_list, isN, fIx_sy0, fIx_sy1, ite_tt, ite_ff]
    exact ⟨_, _, Fz.drop p, by rw [mdel_mset hp]; exact hq _ (srt_chain rows)⟩
/-! ### pieces -/
theorem fSl_row {r : List Sy} {lo hi : Option Int} {m : Mu} {P : PD} : fSl (rowD r) lo hi m P = P (.tup (cutD (r.map syD) lo hi)) m := rfl
theorem cutD_z {xs : List D} {b : Nat} : cutD xs none (some (b : Int)) = xs.take b := by
  unfold cutD
  rw [HT.sIx_nat, HT.sIx_none, List.drop_zero, Nat.sub_zero]
  rcases Nat.le_total b xs.length with hb | hb
  · rw [Nat.min_eq_left hb]
  · rw [Nat.min_eq_right hb, List.take_of_length_le (Nat.le_refl _), List.take_of_length_le hb]
theorem cutD_n {xs : List D} {a : Nat} : cutD xs (some (a : Int)) none = xs.drop a := by
  unfold cutD
  rw [HT.sIx_nat, HT.sIx_none]
  by_cases h : a ≤ xs.length
  · rw [Nat.min_eq_left h, List.take_of_length_le (by rw [List.length_drop]; exact Nat.le_refl _)]
  · rw [Nat.min_eq_right (by omega), List.drop_eq_nil_of_le (Nat.le_refl _), List.drop_eq_nil_of_le (by omega)]
    simp
theorem fLen_row {r : List Sy} {m : Mu} {P : PD} : fLen [rowD r] m P = P (.int (r.length : Int)) m := by
  have : fLen [rowD r] m P = P (.int ((r.map syD).length : Int)) m := fLen_t
  rw [this, List.length_map]
/-- another piece put there -/
def putR (r : Rw) (k : Nat) (p : Rw) : Rw := r.take k ++ p ++ r.drop (k + far (r.drop k) 1)
theorem put_map (r p : Rw) (k : Nat) : (r.map syD).take k ++ p.map syD ++ (r.map syD).drop (k + far (r.drop k) 1) = (putR r k p).map syD := by
  unfold putR
  rw [List.map_append, List.map_append, List.map_take, List.map_drop]
theorem put_len (r p : Rw) (k : Nat) : (putR r k p).length ≤ r.length + p.length := by
  unfold putR
  rw [List.length_append, List.length_append, List.length_take, List.length_drop]
  have : min k r.length + (r.length - (k + far (r.drop k) 1)) ≤ r.length := by omega
  omega
theorem put_good {r p : Rw} {k : Nat} (h1 : ∀ s ∈ r, goodSy s) (h2 : ∀ s ∈ p, goodSy s) : ∀ s ∈ putR r k p, goodSy s := fun s hs => by
  unfold putR at hs
  rcases List.mem_append.mp hs with z | z
  · rcases List.mem_append.mp z with z | z
    · exact h1 s (List.mem_of_mem_take z)
    · exact h2 s z
  · exact h1 s (List.mem_of_mem_drop z)
def sp_end_of : ASp := fun ds m P _ => ∃ (r : List Sy) (k : Nat), ds = [rowD r, .int k] ∧ r.length ≤ 1000 ∧ okRow (r.drop k) 1 = true ∧ P (.int ((k + far (r.drop k) 1 : Nat) : Int)) m
theorem rd_end_of : ∀ ds m Q W, sp_end_of ds m Q W → b_end_of W { nx := fun _ m' => fzE K Q .non m', rt := fzE K Q } (ds.map some ++ List.replicate (N_end_of.length - ds.length) none) m := by
  rintro ds m Q W ⟨r, k, rfl, hl, hok, hq⟩
  change b_end_of W _ [some (rowD r), some (.int k), none, none] m
  unfold b_end_of
  simp only [aSeq, aSet, aC, aVar, aOp, aTest, aTru, aAnd, aOr, aNot, aAndV, aOrV, aNotV, aIfE, aNil, aCons, aTup, aLst, aLstB, aUn, aCa, aSl, aNo, aPart, aM, aML, aRet, aRetN, aIf, aDo, aNext, aCont, aBrk, aAsg, aCall, aCallX, aMeth, aFld, aSetFld, aFldAug, aAug, aRaise, aMake, aYes, kName, kCons, kNil, kSub, nth, put, wipeD, asT_b, fAdd_i, fAdd_s, fAdd_t, fAdd_l, fSub_i, fLt_i, fLe_i, fGt_i, fGe_i, fMul_i, fMod_i, fFdiv_i, fPow_i, fNeg_i, fEq_i, fEq_s, fEq_b, fNe_i, fNe_s, fNe_b, fIn_s, fNi_s, fIx_t0, fIx_t1, fIx_t2, fIx_l0, fIx_l1, fSl_s, fSl_t, fSl_l, fLen_t, fLen_l, fInt_i, fAbs_i, fMax_i, fMin_i, fTuple_t, fTuple_l, fList_t, fList_l, fRepS_s, seqOf_t, seqOf_l, truD_b, truD_t, truD_l, kTup_t, fIsN_n, fIsi_non_int, fIsi_non_bool, fIsi_non_str, fIsi_non_tuple, fIsi_non_list, fIsi_bl_int, fIsi_bl_bool, fIsi_bl_str, fIsi_bl_tuple, fIsi_bl_list, fIsi_int_int, fIsi_int_bool, fIsi_int_str, fIsi_int_tuple, fIsi_int_list, fIsi_str_int, fIsi_str_bool, fIsi_str_str, fIsi_str_tuple, fIsi_str_list, fIsi_tup_int, fIsi_tup_bool, fIsi_tup_str, fIsi_tup_tuple, fIsi_tup_list, fIsi_lst_int, fIsi_lst_bool, fIsi_lst_str, fIsi_lst_tuple, fIsi_lst_list, isN, fIx_sy0, fIx_sy1, ite_tt, ite_ff]
  refine ⟨fun n g m' => ∃ (j : Nat) (need : Nat), g = [some (rowD r), some (.int k), some (.int ((k + j : Nat) : Int)), some (.int (need : Int))] ∧ m' = m ∧ n = r.length - (k + j) ∧ k + j ≤ r.length ∧ okRow (r.drop (k + j)) need = true ∧ j + far (r.drop (k + j)) need = far (r.drop k) 1, ⟨r.length - k, 0, 1, rfl, rfl, rfl, ?_, hok, by simp⟩, ?_⟩
  · cases hc : r.drop k with
    | nil =>
      rw [hc] at hok
      cases hok
    | cons s t =>
      have := (at_drop hc).2.2
      omega
  · rintro n g m' ⟨j, need, rfl, rfl, rfl, hle, hok', hf⟩
    cases need with
    | zero =>
      simp only [aSeq, aSet, aC, aVar, aOp, aTest, aTru, aAnd, aOr, aNot, aAndV, aOrV, aNotV, aIfE, aNil, aCons, aTup, aLst, aLstB, aUn, aCa, aSl, aNo, aPart, aM, aML, aRet, aRetN, aIf, aDo, aNext, aCont, aBrk, aAsg, aCall, aCallX, aMeth, aFld, aSetFld, aFldAug, aAug, aRaise, aMake, aYes, kName, kCons, kNil, kSub, nth, put, wipeD, asT_b, fAdd_i, fAdd_s, fAdd_t, fAdd_l, fSub_i, fLt_i, fLe_i, fGt_i, fGe_i, fMul_i, fMod_i, fFdiv_i, fPow_i, fNeg_i, fEq_i, fEq_s, fEq_b, fNe_i, fNe_s, fNe_b, fIn_s, fNi_s, fIx_t0, fIx_t1, fIx_t2, fIx_l0, fIx_l1, fSl_s, fSl_t, fSl_l, fLen_t, fLen_l, fInt_i, fAbs_i, fMax_i, fMin_i, fTuple_t, fTuple_l, fList_t, fList_l, fRepS_s, seqOf_t, seqOf_l, truD_b, truD_t, truD_l, kTup_t, fIsN_n, fIsi_non_int, fIsi_non_bool, fIsi_non_str, fIsi_non_tuple, fIsi_non_list, fIsi_bl_int, fIsi_bl_bool, fIsi_bl_str, fIsi_bl_tuple, fIsi_bl_list, fIsi_int_int, fIsi_int_bool, fIsi_int_str, fIsi_int_tuple, fIsi_int_list, fIsi_str_int, fIsi_str_bool, fIsi_str_str, fIsi_str_tuple, fIsi_str_list, fIsi_tup_int, fIsi_tup_bool, fIsi_tup_str, fIsi_tup_tuple, fIsi_tup_list, fIsi_lst_int, fIsi_lst_bool, fIsi_lst_str, fIsi_lst_tuple, fIsi_lst_list, isN, fIx_sy0, fIx_sy1, ite_tt, ite_ff]
      rw [far_zero] at hf
      have e : j = far (r.drop k) 1 := by omega
      subst e
      exact fzE.of hq
    | succ need =>
      cases hc : r.drop (k + j) with
      | nil =>
        rw [hc] at hok'
        cases hok'
      | cons s t =>
        obtain ⟨hs, hd, hlt⟩ := at_drop hc
        simp only [aSeq, aSet, aC, aVar, aOp, aTest, aTru, aAnd, aOr, aNot, aAndV, aOrV, aNotV, aIfE, aNil, aCons, aTup, aLst, aLstB, aUn, aCa, aSl, aNo, aPart, aM, aML, aRet, aRetN, aIf, aDo, aNext, aCont, aBrk, aAsg, aCall, aCallX, aMeth, aFld, aSetFld, aFldAug, aAug, aRaise, aMake, aYes, kName, kCons, kNil, kSub, nth, put, wipeD, asT_b, fAdd_i, fAdd_s, fAdd_t, fAdd_l, fSub_i, fLt_i, fLe_i, fGt_i, fGe_i, fMul_i, fMod_i, fFdiv_i, fPow_i, fNeg_i, fEq_i, fEq_s, fEq_b, fNe_i, fNe_s, fNe_b, fIn_s, fNi_s, fIx_t0, fIx_t1, fIx_t2, fIx_l0, fIx_l1, fSl_s, fSl_t, fSl_l, fLen_t, fLen_l, fInt_i, fAbs_i, fMax_i, fMin_i, fTuple_t, fTuple_l, fList_t, fList_l, fRepS_s, seqOf_t, seqOf_l, truD_b, truD_t, truD_l, kTup_t, fIsN_n, fIsi_non_int, fIsi_non_bool, fIsi_non_str, fIsi_non_tuple, fIsi_non_list, fIsi_bl_int, fIsi_bl_bool, fIsi_bl_str, fIsi_bl_tuple, fIsi_bl_list, fIsi_int_int, fIsi_int_bool, fIsi_int_str, fIsi_int_tuple, fIsi_int_list, fIsi_str_int, fIsi_str_bool, fIsi_str_str, fIsi_str_tuple, fIsi_str_list, fIsi_tup_int, fIsi_tup_bool, fIsi_tup_str, fIsi_tup_tuple, fIsi_tup_list, fIsi_lst_int, fIsi_lst_bool, fIsi_lst_str, fIsi_lst_tuple, fIsi_lst_list, isN, fIx_sy0, fIx_sy1, ite_tt, ite_ff, fIx_row hs]
        rw [hc] at hok' hf
        rw [if_pos (by simp)]
        have h2 : far (s :: t) (need + 1) = far t (need + s.n) + 1 := rfl
        refine ⟨r.length - (k + (j + 1)), by omega, j + 1, need + s.n, ?_, by trivial, rfl, by omega, ?_, ?_⟩
        · rw [int_eq (show ((k + j : Nat) : Int) + 1 = ((k + (j + 1) : Nat) : Int) by omega), int_eq (show ((need + 1 : Nat) : Int) + ((s.n : Int) - 1) = ((need + s.n : Nat) : Int) by omega)]
        · rw [← Nat.add_assoc, hd]
          exact hok'
        · rw [← Nat.add_assoc k j 1, hd]
          omega
def sp_with_piece (C : Addr) : ASp := fun ds m P W => ∃ (r p : Rw) (k : Nat), ds = [rowD r, .int k, rowD p] ∧ whole r ∧ k < r.length ∧ r.length ≤ 400 ∧ Tree p ∧ P (rowD (putR r k p)) m
theorem rd_with_piece {C : Addr} : ∀ ds m Q W, sp_with_piece C ds m Q W → b_with_piece sp_end_of sp_is_node sp_is_tree (sp_need C) W { nx := fun _ m' => fzE K Q .non m', rt := fzE K Q } (ds.map some ++ List.replicate (N_with_piece.length - ds.length) none) m := by
  rintro ds m Q W ⟨r, p, k, rfl, hw, hk, hr, hp, hq⟩
  change b_with_piece _ _ _ _ W _ [some (rowD r), some (.int k), some (rowD p)] m
  unfold b_with_piece
  obtain ⟨t1, t2⟩ := hp.is
  simp only [aSeq, aSet, aC, aVar, aOp, aTest, aTru, aAnd, aOr, aNot, aAndV, aOrV, aNotV, aIfE, aNil, aCons, aTup, aLst, aLstB, aUn, aCa, aSl, aNo, aPart, aM, aML, aRet, aRetN, aIf, aDo, aNext, aCont, aBrk, aAsg, aCall, aCallX, aMeth, aFld, aSetFld, aFldAug, aAug, aRaise, aMake, aYes, kName, kCons, kNil, kSub, nth, put, wipeD, asT_b, fAdd_i, fAdd_s, fAdd_t, fAdd_l, fSub_i, fLt_i, fLe_i, fGt_i, fGe_i, fMul_i, fMod_i, fFdiv_i, fPow_i, fNeg_i, fEq_i, fEq_s, fEq_b, fNe_i, fNe_s, fNe_b, fIn_s, fNi_s, fIx_t0, fIx_t1, fIx_t2, fIx_l0, fIx_l1, fSl_s, fSl_t, fSl_l, fLen_t, fLen_l, fInt_i, fAbs_i, fMax_i, fMin_i, fTuple_t, fTuple_l, fList_t, fList_l, fRepS_s, seqOf_t, seqOf_l, truD_b, truD_t, truD_l, kTup_t, fIsN_n, fIsi_non_int, fIsi_non_bool, fIsi_non_str, fIsi_non_tuple, fIsi_non_list, fIsi_bl_int, fIsi_bl_bool, fIsi_bl_str, fIsi_bl_tuple, fIsi_bl_list, fIsi_int_int, fIsi_int_bool, fIsi_int_str, fIsi_int_tuple, fIsi_int_list, fIsi_str_int, fIsi_str_bool, fIsi_str_str, fIsi_str_tuple, fIsi_str_list, fIsi_tup_int, fIsi_tup_bool, fIsi_tup_str, fIsi_tup_tuple, fIsi_tup_list, fIsi_lst_int, fIsi_lst_bool, fIsi_lst_str, fIsi_lst_tuple, fIsi_lst_list, isN, fIx_sy0, fIx_sy1, ite_tt, ite_ff]
  refine ⟨k, r, rfl, ?_⟩
  rw [decide_eq_true (by omega), decide_eq_true (by omega)]
  refine ⟨true, "node", rfl, fun _ => ?_, (fun z => nomatch z)⟩
  refine ⟨_, rfl, t2, ?_⟩
  rw [t1]
  refine ⟨true, "piece", rfl, fun _ => ?_, (fun z => nomatch z)⟩
  try simp only [aSeq, aSet, aC, aVar, aOp, aTest, aTru, aAnd, aOr, aNot, aAndV, aOrV, aNotV, aIfE, aNil, aCons, aTup, aLst, aLstB, aUn, aCa, aSl, aNo, aPart, aM, aML, aRet, aRetN, aIf, aDo, aNext, aCont, aBrk, aAsg, aCall, aCallX, aMeth, aFld, aSetFld, aFldAug, aAug, aRaise, aMake, aYes, kName, kCons, kNil, kSub, nth, put, wipeD, asT_b, fAdd_i, fAdd_s, fAdd_t, fAdd_l, fSub_i, fLt_i, fLe_i, fGt_i, fGe_i, fMul_i, fMod_i, fFdiv_i, fPow_i, fNeg_i, fEq_i, fEq_s, fEq_b, fNe_i, fNe_s, fNe_b, fIn_s, fNi_s, fIx_t0, fIx_t1, fIx_t2, fIx_l0, fIx_l1, fSl_s, fSl_t, fSl_l, fLen_t, fLen_l, fInt_i, fAbs_i, fMax_i, fMin_i, fTuple_t, fTuple_l, fList_t, fList_l, fRepS_s, seqOf_t, seqOf_l, truD_b, truD_t, truD_l, kTup_t, fIsN_n, fIsi_non_int, fIsi_non_bool, fIsi_non_str, fIsi_non_tuple, fIsi_non_list, fIsi_bl_int, fIsi_bl_bool, fIsi_bl_str, fIsi_bl_tuple, fIsi_bl_list, fIsi_int_int, fIsi_int_bool, fIsi_int_str, fIsi_int_tuple, fIsi_int_list, fIsi_str_int, fIsi_str_bool, fIsi_str_str, fIsi_str_tuple, fIsi_str_list, fIsi_tup_int, fIsi_tup_bool, fIsi_tup_str, fIsi_tup_tuple, fIsi_tup_list, fIsi_lst_int, fIsi_lst_bool, fIsi_lst_str, fIsi_lst_tuple, fIsi_lst_list, isN, fIx_sy0, fIx_sy1, ite_tt, ite_ff, fSl_row, cutD_z]
  unfold rowD
  try simp only [aSeq, aSet, aC, aVar, aOp, aTest, aTru, aAnd, aOr, aNot, aAndV, aOrV, aNotV, aIfE, aNil, aCons, aTup, aLst, aLstB, aUn, aCa, aSl, aNo, aPart, aM, aML, aRet, aRetN, aIf, aDo, aNext, aCont, aBrk, aAsg, aCall, aCallX, aMeth, aFld, aSetFld, aFldAug, aAug, aRaise, aMake, aYes, kName, kCons, kNil, kSub, nth, put, wipeD, asT_b, fAdd_i, fAdd_s, fAdd_t, fAdd_l, fSub_i, fLt_i, fLe_i, fGt_i, fGe_i, fMul_i, fMod_i, fFdiv_i, fPow_i, fNeg_i, fEq_i, fEq_s, fEq_b, fNe_i, fNe_s, fNe_b, fIn_s, fNi_s, fIx_t0, fIx_t1, fIx_t2, fIx_l0, fIx_l1, fSl_s, fSl_t, fSl_l, fLen_t, fLen_l, fInt_i, fAbs_i, fMax_i, fMin_i, fTuple_t, fTuple_l, fList_t, fList_l, fRepS_s, seqOf_t, seqOf_l, truD_b, truD_t, truD_l, kTup_t, fIsN_n, fIsi_non_int, fIsi_non_bool, fIsi_non_str, fIsi_non_tuple, fIsi_non_list, fIsi_bl_int, fIsi_bl_bool, fIsi_bl_str, fIsi_bl_tuple, fIsi_bl_list, fIsi_int_int, fIsi_int_bool, fIsi_int_str, fIsi_int_tuple, fIsi_int_list, fIsi_str_int, fIsi_str_bool, fIsi_str_str, fIsi_str_tuple, fIsi_str_list, fIsi_tup_int, fIsi_tup_bool, fIsi_tup_str, fIsi_tup_tuple, fIsi_tup_list, fIsi_lst_int, fIsi_lst_bool, fIsi_lst_str, fIsi_lst_tuple, fIsi_lst_list, isN, fIx_sy0, fIx_sy1, ite_tt, ite_ff]
  have := hp.few
  refine ⟨?_, r, k, rfl, by omega, whole_piece hw hk, ?_⟩
  · rw [List.length_take, List.length_map, List.length_map]
    omega
  try simp only [aSeq, aSet, aC, aVar, aOp, aTest, aTru, aAnd, aOr, aNot, aAndV, aOrV, aNotV, aIfE, aNil, aCons, aTup, aLst, aLstB, aUn, aCa, aSl, aNo, aPart, aM, aML, aRet, aRetN, aIf, aDo, aNext, aCont, aBrk, aAsg, aCall, aCallX, aMeth, aFld, aSetFld, aFldAug, aAug, aRaise, aMake, aYes, kName, kCons, kNil, kSub, nth, put, wipeD, asT_b, fAdd_i, fAdd_s, fAdd_t, fAdd_l, fSub_i, fLt_i, fLe_i, fGt_i, fGe_i, fMul_i, fMod_i, fFdiv_i, fPow_i, fNeg_i, fEq_i, fEq_s, fEq_b, fNe_i, fNe_s, fNe_b, fIn_s, fNi_s, fIx_t0, fIx_t1, fIx_t2, fIx_l0, fIx_l1, fSl_s, fSl_t, fSl_l, fLen_t, fLen_l, fInt_i, fAbs_i, fMax_i, fMin_i, fTuple_t, fTuple_l, fList_t, fList_l, fRepS_s, seqOf_t, seqOf_l, truD_b, truD_t, truD_l, kTup_t, fIsN_n, fIsi_non_int, fIsi_non_bool, fIsi_non_str, fIsi_non_tuple, fIsi_non_list, fIsi_bl_int, fIsi_bl_bool, fIsi_bl_str, fIsi_bl_tuple, fIsi_bl_list, fIsi_int_int, fIsi_int_bool, fIsi_int_str, fIsi_int_tuple, fIsi_int_list, fIsi_str_int, fIsi_str_bool, fIsi_str_str, fIsi_str_tuple, fIsi_str_list, fIsi_tup_int, fIsi_tup_bool, fIsi_tup_str, fIsi_tup_tuple, fIsi_tup_list, fIsi_lst_int, fIsi_lst_bool, fIsi_lst_str, fIsi_lst_tuple, fIsi_lst_list, isN, fIx_sy0, fIx_sy1, ite_tt, ite_ff, fSl_t, cutD_n]
  rw [put_map]
  have hz := put_len r p k
  refine ⟨?_, fzE.of hq⟩
  simp only [List.length_append, List.length_take, List.length_drop, List.length_map]
  omega
end AL
set_option maxHeartbeats 4000000
namespace AL
open PySem L2 Evl
variable {K : PySem.W.Frag}
/-! ### the numbers of the signs -/
structure Small (r : List Sy) : Prop where
  few : r.length ≤ 600
  wd : ∀ s ∈ r, s.w.length ≤ 16
theorem sgs_len : ∀ {r : List Sy}, (∀ s ∈ r, s.w.length ≤ 16) → (r.flatMap sgs).length ≤ 18 * r.length
  | [], _ => by simp
  | s :: r, h => by
    have h1 := sgs_len (r := r) fun x hx => h x (List.mem_cons_of_mem _ hx)
    have h2 := h s List.mem_cons_self
    rw [List.flatMap_cons, List.length_append, List.length_cons]
    have : (sgs s).length = s.w.length + 2 := by simp [sgs]
    omega
def sp_law_numbers : ASp := fun ds m P _ => ∃ r : List Sy, ds = [rowD r] ∧ Small r ∧ P (.lst ((numsOf r).map .int)) m
theorem rd_law_numbers : ∀ ds m Q W, sp_law_numbers ds m Q W → b_law_numbers W { nx := fun _ m' => fzE K Q .non m', rt := fzE K Q } (ds.map some ++ List.replicate (N_law_numbers.length - ds.length) none) m := by
  rintro ds m Q W ⟨r, rfl, hs, hq⟩
  change b_law_numbers W _ [some (rowD r), none, none, none] m
  unfold b_law_numbers
  simp only [aSeq, aSet, aC, aVar, aOp, aTest, aTru, aAnd, aOr, aNot, aAndV, aOrV, aNotV, aIfE, aNil, aCons, aTup, aLst, aLstB, aUn, aCa, aSl, aNo, aPart, aM, aML, aRet, aRetN, aIf, aDo, aNext, aCont, aBrk, aAsg, aCall, aCallX, aMeth, aFld, aSetFld, aFldAug, aAug, aRaise, aMake, aYes, kName, kCons, kNil, kSub, nth, put, wipeD, asT_b, fAdd_i, fAdd_s, fAdd_t, fAdd_l, fSub_i, fLt_i, fLe_i, fGt_i, fGe_i, fMul_i, fMod_i, fFdiv_i, fPow_i, fNeg_i, fEq_i, fEq_s, fEq_b, fNe_i, fNe_s, fNe_b, fIn_s, fNi_s, fIx_t0, fIx_t1, fIx_t2, fIx_l0, fIx_l1, fSl_s, fSl_t, fSl_l, fLen_t, fLen_l, fInt_i, fAbs_i, fMax_i, fMin_i, fTuple_t, fTuple_l, fList_t, fList_l, fRepS_s, seqOf_t, seqOf_l, truD_b, truD_t, truD_l, kTup_t, fIsN_n, fIsi_non_int, fIsi_non_bool, fIsi_non_str, fIsi_non_tuple, fIsi_non_list, fIsi_bl_int, fIsi_bl_bool, fIsi_bl_str, fIsi_bl_tuple, fIsi_bl_list, fIsi_int_int, fIsi_int_bool, fIsi_int_str, fIsi_int_tuple, fIsi_int_list, fIsi_str_int, fIsi_str_bool, fIsi_str_str, fIsi_str_tuple, fIsi_str_list, fIsi_tup_int, fIsi_tup_bool, fIsi_tup_str, fIsi_tup_tuple, fIsi_tup_list, fIsi_lst_int, fIsi_lst_bool, fIsi_lst_str, fIsi_lst_tuple, fIsi_lst_list, isN, fIx_sy0, fIx_sy1, ite_tt, ite_ff, fLen_row]
  refine ⟨by simp, fun p hp => ?_⟩
  try simp only [aSeq, aSet, aC, aVar, aOp, aTest, aTru, aAnd, aOr, aNot, aAndV, aOrV, aNotV, aIfE, aNil, aCons, aTup, aLst, aLstB, aUn, aCa, aSl, aNo, aPart, aM, aML, aRet, aRetN, aIf, aDo, aNext, aCont, aBrk, aAsg, aCall, aCallX, aMeth, aFld, aSetFld, aFldAug, aAug, aRaise, aMake, aYes, kName, kCons, kNil, kSub, nth, put, wipeD, asT_b, fAdd_i, fAdd_s, fAdd_t, fAdd_l, fSub_i, fLt_i, fLe_i, fGt_i, fGe_i, fMul_i, fMod_i, fFdiv_i, fPow_i, fNeg_i, fEq_i, fEq_s, fEq_b, fNe_i, fNe_s, fNe_b, fIn_s, fNi_s, fIx_t0, fIx_t1, fIx_t2, fIx_l0, fIx_l1, fSl_s, fSl_t, fSl_l, fLen_t, fLen_l, fInt_i, fAbs_i, fMax_i, fMin_i, fTuple_t, fTuple_l, fList_t, fList_l, fRepS_s, seqOf_t, seqOf_l, truD_b, truD_t, truD_l, kTup_t, fIsN_n, fIsi_non_int, fIsi_non_bool, fIsi_non_str, fIsi_non_tuple, fIsi_non_list, fIsi_bl_int, fIsi_bl_bool, fIsi_bl_str, fIsi_bl_tuple, fIsi_bl_list, fIsi_int_int, fIsi_int_bool, fIsi_int_str, fIsi_int_tuple, fIsi_int_list, fIsi_str_int, fIsi_str_bool, fIsi_str_str, fIsi_str_tuple, fIsi_str_list, fIsi_tup_int, fIsi_tup_bool, fIsi_tup_str, fIsi_tup_tuple, fIsi_tup_list, fIsi_lst_int, fIsi_lst_bool, fIsi_lst_str, fIsi_lst_tuple, fIsi_lst_list, isN, fIx_sy0, fIx_sy1, ite_tt, ite_ff, aFor]
  have hfew := hs.few
  refine ⟨r.map syD, rfl, fun i g m' => ∃ a b, g = [some (rowD r), some (.box p), a, b] ∧ m' = mset m p (.lst (((r.length : Int) :: (r.take i).flatMap sgs).map .int)), ⟨none, none, rfl, rfl⟩, fun _ _ _ _ _ => rfl, ?_, ?_⟩
  · rintro i x g m' hx ⟨a, b, rfl, rfl⟩
    have hi : i < r.length := by
      have := (List.getElem?_eq_some_iff.mp hx).1
      simpa using this
    have ex : x = syD r[i] := by
      rw [List.getElem?_map, List.getElem?_eq_getElem hi] at hx
      cases hx
      rfl
    subst ex
    have hwl := hs.wd r[i] (List.getElem_mem hi)
    have hpre : ((r.take i).flatMap sgs).length ≤ 18 * 600 := by
      have h1 := sgs_len (r := r.take i) fun s hs' => hs.wd s (List.mem_of_mem_take hs')
      rw [List.length_take] at h1
      omega
    have htk : (r.take (i + 1)).flatMap sgs = (r.take i).flatMap sgs ++ sgs r[i] := by
      rw [List.take_succ, List.getElem?_eq_getElem hi, List.flatMap_append]
      simp
    generalize r[i] = s at *
    generalize (r.take i).flatMap sgs = pre at *
    simp only [aSeq, aSet, aC, aVar, aOp, aTest, aTru, aAnd, aOr, aNot, aAndV, aOrV, aNotV, aIfE, aNil, aCons, aTup, aLst, aLstB, aUn, aCa, aSl, aNo, aPart, aM, aML, aRet, aRetN, aIf, aDo, aNext, aCont, aBrk, aAsg, aCall, aCallX, aMeth, aFld, aSetFld, aFldAug, aAug, aRaise, aMake, aYes, kName, kCons, kNil, kSub, nth, put, wipeD, asT_b, fAdd_i, fAdd_s, fAdd_t, fAdd_l, fSub_i, fLt_i, fLe_i, fGt_i, fGe_i, fMul_i, fMod_i, fFdiv_i, fPow_i, fNeg_i, fEq_i, fEq_s, fEq_b, fNe_i, fNe_s, fNe_b, fIn_s, fNi_s, fIx_t0, fIx_t1, fIx_t2, fIx_l0, fIx_l1, fSl_s, fSl_t, fSl_l, fLen_t, fLen_l, fInt_i, fAbs_i, fMax_i, fMin_i, fTuple_t, fTuple_l, fList_t, fList_l, fRepS_s, seqOf_t, seqOf_l, truD_b, truD_t, truD_l, kTup_t, fIsN_n, fIsi_non_int, fIsi_non_bool, fIsi_non_str, fIsi_non_tuple, fIsi_non_list, fIsi_bl_int, fIsi_bl_bool, fIsi_bl_str, fIsi_bl_tuple, fIsi_bl_list, fIsi_int_int, fIsi_int_bool, fIsi_int_str, fIsi_int_tuple, fIsi_int_list, fIsi_str_int, fIsi_str_bool, fIsi_str_str, fIsi_str_tuple, fIsi_str_list, fIsi_tup_int, fIsi_tup_bool, fIsi_tup_str, fIsi_tup_tuple, fIsi_tup_list, fIsi_lst_int, fIsi_lst_bool, fIsi_lst_str, fIsi_lst_tuple, fIsi_lst_list, isN, fIx_sy0, fIx_sy1, ite_tt, ite_ff, aForT]
    have hsz : (tx s.w).cps.size = s.w.length := by simp [tx]
    refine ⟨tx s.w, rfl, fun j g m' => ∃ b, g = [some (rowD r), some (.box p), some (syD s), b] ∧ m' = mset m p (.lst (((r.length : Int) :: (pre ++ (s.w.take j).map sg)).map .int)), ⟨b, rfl, by simp⟩, ?_, ?_⟩
    · rintro j g m' hj ⟨b2, rfl, rfl⟩
      rw [hsz] at hj
      have e1 : sgD (tx s.w) j = .str ⟨#[s.w[j]]⟩ := by
        refine sgD_is ?_
        simp [tx, hj]
      rw [e1]
      simp only [aSeq, aSet, aC, aVar, aOp, aTest, aTru, aAnd, aOr, aNot, aAndV, aOrV, aNotV, aIfE, aNil, aCons, aTup, aLst, aLstB, aUn, aCa, aSl, aNo, aPart, aM, aML, aRet, aRetN, aIf, aDo, aNext, aCont, aBrk, aAsg, aCall, aCallX, aMeth, aFld, aSetFld, aFldAug, aAug, aRaise, aMake, aYes, kName, kCons, kNil, kSub, nth, put, wipeD, asT_b, fAdd_i, fAdd_s, fAdd_t, fAdd_l, fSub_i, fLt_i, fLe_i, fGt_i, fGe_i, fMul_i, fMod_i, fFdiv_i, fPow_i, fNeg_i, fEq_i, fEq_s, fEq_b, fNe_i, fNe_s, fNe_b, fIn_s, fNi_s, fIx_t0, fIx_t1, fIx_t2, fIx_l0, fIx_l1, fSl_s, fSl_t, fSl_l, fLen_t, fLen_l, fInt_i, fAbs_i, fMax_i, fMin_i, fTuple_t, fTuple_l, fList_t, fList_l, fRepS_s, seqOf_t, seqOf_l, truD_b, truD_t, truD_l, kTup_t, fIsN_n, fIsi_non_int, fIsi_non_bool, fIsi_non_str, fIsi_non_tuple, fIsi_non_list, fIsi_bl_int, fIsi_bl_bool, fIsi_bl_str, fIsi_bl_tuple, fIsi_bl_list, fIsi_int_int, fIsi_int_bool, fIsi_int_str, fIsi_int_tuple, fIsi_int_list, fIsi_str_int, fIsi_str_bool, fIsi_str_str, fIsi_str_tuple, fIsi_str_list, fIsi_tup_int, fIsi_tup_bool, fIsi_tup_str, fIsi_tup_tuple, fIsi_tup_list, fIsi_lst_int, fIsi_lst_bool, fIsi_lst_str, fIsi_lst_tuple, fIsi_lst_list, isN, fIx_sy0, fIx_sy1, ite_tt, ite_ff, isL_b mset_same, fOrd, fApp_b mset_same, true_and]
      refine ⟨rfl, ?_, _, by trivial, ?_⟩
      · simp only [List.length_map, List.length_cons, List.length_append, List.length_take]
        omega
      · rw [mset_mset]
        have e2 : s.w.take (j + 1) = s.w.take j ++ [s.w[j]] := by rw [List.take_succ, List.getElem?_eq_getElem hj]; rfl
        rw [e2]
        simp only [List.map_cons, List.map_append, List.map_nil, List.cons_append, List.append_assoc]
        rfl
    · rintro g m' ⟨b2, rfl, rfl⟩
      rw [hsz, List.take_length]
      simp only [aSeq, aSet, aC, aVar, aOp, aTest, aTru, aAnd, aOr, aNot, aAndV, aOrV, aNotV, aIfE, aNil, aCons, aTup, aLst, aLstB, aUn, aCa, aSl, aNo, aPart, aM, aML, aRet, aRetN, aIf, aDo, aNext, aCont, aBrk, aAsg, aCall, aCallX, aMeth, aFld, aSetFld, aFldAug, aAug, aRaise, aMake, aYes, kName, kCons, kNil, kSub, nth, put, wipeD, asT_b, fAdd_i, fAdd_s, fAdd_t, fAdd_l, fSub_i, fLt_i, fLe_i, fGt_i, fGe_i, fMul_i, fMod_i, fFdiv_i, fPow_i, fNeg_i, fEq_i, fEq_s, fEq_b, fNe_i, fNe_s, fNe_b, fIn_s, fNi_s, fIx_t0, fIx_t1, fIx_t2, fIx_l0, fIx_l1, fSl_s, fSl_t, fSl_l, fLen_t, fLen_l, fInt_i, fAbs_i, fMax_i, fMin_i, fTuple_t, fTuple_l, fList_t, fList_l, fRepS_s, seqOf_t, seqOf_l, truD_b, truD_t, truD_l, kTup_t, fIsN_n, fIsi_non_int, fIsi_non_bool, fIsi_non_str, fIsi_non_tuple, fIsi_non_list, fIsi_bl_int, fIsi_bl_bool, fIsi_bl_str, fIsi_bl_tuple, fIsi_bl_list, fIsi_int_int, fIsi_int_bool, fIsi_int_str, fIsi_int_tuple, fIsi_int_list, fIsi_str_int, fIsi_str_bool, fIsi_str_str, fIsi_str_tuple, fIsi_str_list, fIsi_tup_int, fIsi_tup_bool, fIsi_tup_str, fIsi_tup_tuple, fIsi_tup_list, fIsi_lst_int, fIsi_lst_bool, fIsi_lst_str, fIsi_lst_tuple, fIsi_lst_list, isN, fIx_sy0, fIx_sy1, ite_tt, ite_ff, isL_b mset_same, fApp_b mset_same, true_and]
      refine ⟨?_, ?_, _, _, by trivial, ?_⟩
      · simp only [List.length_map, List.length_cons, List.length_append]
        omega
      · simp only [List.length_map, List.length_cons, List.length_append, List.length_nil]
        omega
      · rw [htk, mset_mset, mset_mset]
        unfold sgs
        simp
  · rintro g m' ⟨a, b, rfl, rfl⟩
    rw [List.length_map, List.take_length]
    simp only [aSeq, aSet, aC, aVar, aOp, aTest, aTru, aAnd, aOr, aNot, aAndV, aOrV, aNotV, aIfE, aNil, aCons, aTup, aLst, aLstB, aUn, aCa, aSl, aNo, aPart, aM, aML, aRet, aRetN, aIf, aDo, aNext, aCont, aBrk, aAsg, aCall, aCallX, aMeth, aFld, aSetFld, aFldAug, aAug, aRaise, aMake, aYes, kName, kCons, kNil, kSub, nth, put, wipeD, asT_b, fAdd_i, fAdd_s, fAdd_t, fAdd_l, fSub_i, fLt_i, fLe_i, fGt_i, fGe_i, fMul_i, fMod_i, fFdiv_i, fPow_i, fNeg_i, fEq_i, fEq_s, fEq_b, fNe_i, fNe_s, fNe_b, fIn_s, fNi_s, fIx_t0, fIx_t1, fIx_t2, fIx_l0, fIx_l1, fSl_s, fSl_t, fSl_l, fLen_t, fLen_l, fInt_i, fAbs_i, fMax_i, fMin_i, fTuple_t, fTuple_l, fList_t, fList_l, fRepS_s, seqOf_t, seqOf_l, truD_b, truD_t, truD_l, kTup_t, fIsN_n, fIsi_non_int, fIsi_non_bool, fIsi_non_str, fIsi_non_tuple, fIsi_non_list, fIsi_bl_int, fIsi_bl_bool, fIsi_bl_str, fIsi_bl_tuple, fIsi_bl_list, fIsi_int_int, fIsi_int_bool, fIsi_int_str, fIsi_int_tuple, fIsi_int_list, fIsi_str_int, fIsi_str_bool, fIsi_str_str, fIsi_str_tuple, fIsi_str_list, fIsi_tup_int, fIsi_tup_bool, fIsi_tup_str, fIsi_tup_tuple, fIsi_tup_list, fIsi_lst_int, fIsi_lst_bool, fIsi_lst_str, fIsi_lst_tuple, fIsi_lst_list, isN, fIx_sy0, fIx_sy1, ite_tt, ite_ff]
    refine ⟨_, _, Fz.lst mset_same, ?_⟩
    rw [mdel_mset hp]
    exact hq
def sp_law_before : ASp := fun ds m P _ => ∃ a b : List Sy, ds = [rowD a, rowD b] ∧ Small a ∧ Small b ∧ P (.bl (ahead a b)) m
theorem bf_end : ∀ {A B : List Int} {n : Nat}, n = min A.length B.length → bf (A.drop n) (B.drop n) = false
  | [], B, n, h => by
    simp [bf]
  | a :: A, [], n, h => by
    simp only [List.drop_nil]
    cases (a :: A).drop n <;> rfl
  | a :: A, b :: B, n, h => by
    have e : n = min A.length B.length + 1 := by
      simp only [List.length_cons] at h
      omega
    subst e
    show bf (A.drop _) (B.drop _) = false
    exact bf_end rfl
theorem nums_len {r : List Sy} (h : Small r) : (numsOf r).length ≤ 20000 := by
  have h1 := sgs_len h.wd
  have h2 := h.few
  unfold numsOf
  rw [List.length_cons]
  omega
theorem rd_law_before : ∀ ds m Q W, sp_law_before ds m Q W → b_law_before sp_law_numbers W { nx := fun _ m' => fzE K Q .non m', rt := fzE K Q } (ds.map some ++ List.replicate (N_law_before.length - ds.length) none) m := by
  rintro ds m Q W ⟨a, b, rfl, ha, hb, hq⟩
  change b_law_before _ W _ [some (rowD a), some (rowD b), none, none, none] m
  unfold b_law_before
  rw [ahead_nums] at hq
  have hla := nums_len ha
  have hlb := nums_len hb
  simp only [aSeq, aSet, aC, aVar, aOp, aTest, aTru, aAnd, aOr, aNot, aAndV, aOrV, aNotV, aIfE, aNil, aCons, aTup, aLst, aLstB, aUn, aCa, aSl, aNo, aPart, aM, aML, aRet, aRetN, aIf, aDo, aNext, aCont, aBrk, aAsg, aCall, aCallX, aMeth, aFld, aSetFld, aFldAug, aAug, aRaise, aMake, aYes, kName, kCons, kNil, kSub, nth, put, wipeD, asT_b, fAdd_i, fAdd_s, fAdd_t, fAdd_l, fSub_i, fLt_i, fLe_i, fGt_i, fGe_i, fMul_i, fMod_i, fFdiv_i, fPow_i, fNeg_i, fEq_i, fEq_s, fEq_b, fNe_i, fNe_s, fNe_b, fIn_s, fNi_s, fIx_t0, fIx_t1, fIx_t2, fIx_l0, fIx_l1, fSl_s, fSl_t, fSl_l, fLen_t, fLen_l, fInt_i, fAbs_i, fMax_i, fMin_i, fTuple_t, fTuple_l, fList_t, fList_l, fRepS_s, seqOf_t, seqOf_l, truD_b, truD_t, truD_l, kTup_t, fIsN_n, fIsi_non_int, fIsi_non_bool, fIsi_non_str, fIsi_non_tuple, fIsi_non_list, fIsi_bl_int, fIsi_bl_bool, fIsi_bl_str, fIsi_bl_tuple, fIsi_bl_list, fIsi_int_int, fIsi_int_bool, fIsi_int_str, fIsi_int_tuple, fIsi_int_list, fIsi_str_int, fIsi_str_bool, fIsi_str_str, fIsi_str_tuple, fIsi_str_list, fIsi_tup_int, fIsi_tup_bool, fIsi_tup_str, fIsi_tup_tuple, fIsi_tup_list, fIsi_lst_int, fIsi_lst_bool, fIsi_lst_str, fIsi_lst_tuple, fIsi_lst_list, isN, fIx_sy0, fIx_sy1, ite_tt, ite_ff]
  refine ⟨a, rfl, ha, b, rfl, hb, ?_⟩
  generalize numsOf a = A at *
  generalize numsOf b = B at *
  try simp only [aSeq, aSet, aC, aVar, aOp, aTest, aTru, aAnd, aOr, aNot, aAndV, aOrV, aNotV, aIfE, aNil, aCons, aTup, aLst, aLstB, aUn, aCa, aSl, aNo, aPart, aM, aML, aRet, aRetN, aIf, aDo, aNext, aCont, aBrk, aAsg, aCall, aCallX, aMeth, aFld, aSetFld, aFldAug, aAug, aRaise, aMake, aYes, kName, kCons, kNil, kSub, nth, put, wipeD, asT_b, fAdd_i, fAdd_s, fAdd_t, fAdd_l, fSub_i, fLt_i, fLe_i, fGt_i, fGe_i, fMul_i, fMod_i, fFdiv_i, fPow_i, fNeg_i, fEq_i, fEq_s, fEq_b, fNe_i, fNe_s, fNe_b, fIn_s, fNi_s, fIx_t0, fIx_t1, fIx_t2, fIx_l0, fIx_l1, fSl_s, fSl_t, fSl_l, fLen_t, fLen_l, fInt_i, fAbs_i, fMax_i, fMin_i, fTuple_t, fTuple_l, fList_t, fList_l, fRepS_s, seqOf_t, seqOf_l, truD_b, truD_t, truD_l, kTup_t, fIsN_n, fIsi_non_int, fIsi_non_bool, fIsi_non_str, fIsi_non_tuple, fIsi_non_list, fIsi_bl_int, fIsi_bl_bool, fIsi_bl_str, fIsi_bl_tuple, fIsi_bl_list, fIsi_int_int, fIsi_int_bool, fIsi_int_str, fIsi_int_tuple, fIsi_int_list, fIsi_str_int, fIsi_str_bool, fIsi_str_str, fIsi_str_tuple, fIsi_str_list, fIsi_tup_int, fIsi_tup_bool, fIsi_tup_str, fIsi_tup_tuple, fIsi_tup_list, fIsi_lst_int, fIsi_lst_bool, fIsi_lst_str, fIsi_lst_tuple, fIsi_lst_list, isN, fIx_sy0, fIx_sy1, ite_tt, ite_ff, aForR]
  rw [List.length_map, List.length_map]
  have hn : (if (B.length : Int) < (A.length : Int) then (B.length : Int) else (A.length : Int)) = ((min A.length B.length : Nat) : Int) := by
    split <;> omega
  refine ⟨0, ((min A.length B.length : Nat) : Int), ?_, fun _ => rfl, by omega, fun k g m' => m' = m ∧ ∃ x, g = [some (rowD a), some (rowD b), some (.lst (A.map .int)), some (.lst (B.map .int)), x] ∧ bf (A.drop k) (B.drop k) = bf A B, ⟨rfl, none, rfl, rfl⟩, ?_, ?_⟩
  · rw [hn]
    rfl
  · rintro k g m' hk ⟨rfl, x, rfl, hb⟩
    have hk : k < min A.length B.length := by omega
    have h1 : k < A.length := by omega
    have h2 : k < B.length := by omega
    have e1 : atI (A.map D.int) ((0 : Int) + (k : Int)) = some (.int A[k]) := by
      rw [Int.zero_add]
      exact atI_nn (by rw [List.getElem?_map, List.getElem?_eq_getElem h1]; rfl)
    have e2 : atI (B.map D.int) ((0 : Int) + (k : Int)) = some (.int B[k]) := by
      rw [Int.zero_add]
      exact atI_nn (by rw [List.getElem?_map, List.getElem?_eq_getElem h2]; rfl)
    rw [List.drop_eq_getElem_cons h1, List.drop_eq_getElem_cons h2] at hb
    simp only [aSeq, aSet, aC, aVar, aOp, aTest, aTru, aAnd, aOr, aNot, aAndV, aOrV, aNotV, aIfE, aNil, aCons, aTup, aLst, aLstB, aUn, aCa, aSl, aNo, aPart, aM, aML, aRet, aRetN, aIf, aDo, aNext, aCont, aBrk, aAsg, aCall, aCallX, aMeth, aFld, aSetFld, aFldAug, aAug, aRaise, aMake, aYes, kName, kCons, kNil, kSub, nth, put, wipeD, asT_b, fAdd_i, fAdd_s, fAdd_t, fAdd_l, fSub_i, fLt_i, fLe_i, fGt_i, fGe_i, fMul_i, fMod_i, fFdiv_i, fPow_i, fNeg_i, fEq_i, fEq_s, fEq_b, fNe_i, fNe_s, fNe_b, fIn_s, fNi_s, fIx_t0, fIx_t1, fIx_t2, fIx_l0, fIx_l1, fSl_s, fSl_t, fSl_l, fLen_t, fLen_l, fInt_i, fAbs_i, fMax_i, fMin_i, fTuple_t, fTuple_l, fList_t, fList_l, fRepS_s, seqOf_t, seqOf_l, truD_b, truD_t, truD_l, kTup_t, fIsN_n, fIsi_non_int, fIsi_non_bool, fIsi_non_str, fIsi_non_tuple, fIsi_non_list, fIsi_bl_int, fIsi_bl_bool, fIsi_bl_str, fIsi_bl_tuple, fIsi_bl_list, fIsi_int_int, fIsi_int_bool, fIsi_int_str, fIsi_int_tuple, fIsi_int_list, fIsi_str_int, fIsi_str_bool, fIsi_str_str, fIsi_str_tuple, fIsi_str_list, fIsi_tup_int, fIsi_tup_bool, fIsi_tup_str, fIsi_tup_tuple, fIsi_tup_list, fIsi_lst_int, fIsi_lst_bool, fIsi_lst_str, fIsi_lst_tuple, fIsi_lst_list, isN, fIx_sy0, fIx_sy1, ite_tt, ite_ff, fIx_l e1, fIx_l e2]
    by_cases e : A[k] = B[k]
    · rw [decide_eq_true e]
      simp only [Bool.not_true, Bool.false_eq_true, if_false]
      refine ⟨by trivial, _, by trivial, ?_⟩
      rw [← hb]
      show _ = if A[k] = B[k] then _ else _
      rw [if_pos e]
    · rw [decide_eq_false e]
      try simp only [Bool.not_false, if_true]
      have e3 : bf (A[k] :: A.drop (k + 1)) (B[k] :: B.drop (k + 1)) = decide (A[k] < B[k]) := if_neg e
      rw [e3] at hb
      rw [← hb] at hq
      exact fzE.of hq
  · rintro g m' ⟨rfl, x, rfl, hb⟩
    try simp only [aSeq, aSet, aC, aVar, aOp, aTest, aTru, aAnd, aOr, aNot, aAndV, aOrV, aNotV, aIfE, aNil, aCons, aTup, aLst, aLstB, aUn, aCa, aSl, aNo, aPart, aM, aML, aRet, aRetN, aIf, aDo, aNext, aCont, aBrk, aAsg, aCall, aCallX, aMeth, aFld, aSetFld, aFldAug, aAug, aRaise, aMake, aYes, kName, kCons, kNil, kSub, nth, put, wipeD, asT_b, fAdd_i, fAdd_s, fAdd_t, fAdd_l, fSub_i, fLt_i, fLe_i, fGt_i, fGe_i, fMul_i, fMod_i, fFdiv_i, fPow_i, fNeg_i, fEq_i, fEq_s, fEq_b, fNe_i, fNe_s, fNe_b, fIn_s, fNi_s, fIx_t0, fIx_t1, fIx_t2, fIx_l0, fIx_l1, fSl_s, fSl_t, fSl_l, fLen_t, fLen_l, fInt_i, fAbs_i, fMax_i, fMin_i, fTuple_t, fTuple_l, fList_t, fList_l, fRepS_s, seqOf_t, seqOf_l, truD_b, truD_t, truD_l, kTup_t, fIsN_n, fIsi_non_int, fIsi_non_bool, fIsi_non_str, fIsi_non_tuple, fIsi_non_list, fIsi_bl_int, fIsi_bl_bool, fIsi_bl_str, fIsi_bl_tuple, fIsi_bl_list, fIsi_int_int, fIsi_int_bool, fIsi_int_str, fIsi_int_tuple, fIsi_int_list, fIsi_str_int, fIsi_str_bool, fIsi_str_str, fIsi_str_tuple, fIsi_str_list, fIsi_tup_int, fIsi_tup_bool, fIsi_tup_str, fIsi_tup_tuple, fIsi_tup_list, fIsi_lst_int, fIsi_lst_bool, fIsi_lst_str, fIsi_lst_tuple, fIsi_lst_list, isN, fIx_sy0, fIx_sy1, ite_tt, ite_ff]
    have e : (((min A.length B.length : Nat) : Int) - 0).toNat = min A.length B.length := by omega
    rw [e, bf_end rfl] at hb
    rw [← hb] at hq
    exact fzE.of hq
end AL
set_option maxHeartbeats 4000000
namespace AL
open PySem L2 Evl
variable {K : PySem.W.Frag}
/-! ### more symbols, rows near one another -/
structure MoreOk (mo : List Sy) : Prop where
  ex : ∃ a b c d : List Nat, mo = [⟨a, 0⟩, ⟨b, 1⟩, ⟨c, 1⟩, ⟨d, 2⟩, ⟨b, 0⟩]
  good : ∀ s ∈ mo, goodSy s
def sp_law_more : ASp := fun ds m P _ => ∃ c s, ds = [tapeD c s] ∧ TapeIn m c s ∧ ∀ mo m', MoreOk mo → Tp c s m m' → P (.lst (mo.map syD)) m'
def nw : List (List Nat) := [[97], [98], [98, 45], [98, 45, 57], [97, 98], [97, 45, 57], [97, 48], [122, 122, 48], [113], [99], [98, 97], [98, 48]]
def wAt (i : Int) : List Nat := nw.getD i.toNat [97]
theorem nw_ok : ∀ w ∈ nw, okWord w ∧ w ≠ [46] := by
  intro w hw
  have : ∃ c r, w = c :: r ∧ low c ∧ (∀ x ∈ r, wsg x) ∧ r.length ≤ 15 := by
    simp only [nw, List.mem_cons, List.not_mem_nil, or_false] at hw
    rcases hw with rfl | rfl | rfl | rfl | rfl | rfl | rfl | rfl | rfl | rfl | rfl | rfl <;> exact ⟨_, _, rfl, by decide, by decide, by decide⟩
  refine ⟨.inr this, ?_⟩
  rintro rfl
  obtain ⟨c, r, e, h, _⟩ := this
  cases e
  exact absurd h (by decide)
theorem nw_get {i : Int} (h0 : 0 ≤ i) (h8 : i < 12) : wAt i ∈ nw ∧ atI ([.str "a", .str "b", .str "b-", .str "b-9", .str "ab", .str "a-9", .str "a0", .str "zz0", .str "q", .str "c", .str "ba", .str "b0"] : List D) i = some (.str (tx (wAt i))) := by
  have : i = 0 ∨ i = 1 ∨ i = 2 ∨ i = 3 ∨ i = 4 ∨ i = 5 ∨ i = 6 ∨ i = 7 ∨ i = 8 ∨ i = 9 ∨ i = 10 ∨ i = 11 := by omega
  rcases this with rfl | rfl | rfl | rfl | rfl | rfl | rfl | rfl | rfl | rfl | rfl | rfl <;> exact ⟨by decide, by rfl⟩
theorem wAt_ok (i : Int) : okWord (wAt i) ∧ wAt i ≠ [46] := by
  refine nw_ok _ ?_
  unfold wAt
  rw [List.getD_eq_getElem?_getD]
  cases e : nw[i.toNat]? with
  | none => decide
  | some w => exact List.mem_of_getElem? e
def mN (i : Nat) : Nat := [0, 1, 1, 2].getD i 0
theorem mul_small {a b : Int} (h0 : 0 ≤ a) (h1 : a ≤ 60) (g0 : 0 ≤ b) (g1 : b ≤ 200) : CMul a b := by
  unfold CMul
  have := Int.mul_nonneg h0 g0
  have := Int.mul_le_mul h1 g1 g0 (by decide)
  omega
theorem rd_law_more : ∀ ds m Q W, sp_law_more ds m Q W → b_law_more sp_law_pick W { nx := fun _ m' => fzE K Q .non m', rt := fzE K Q } (ds.map some ++ List.replicate (N_law_more.length - ds.length) none) m := by
  rintro ds m Q W ⟨c, s, rfl, tp, hq⟩
  change b_law_more sp_law_pick W _ [some (tapeD c s), none, none, none, none, none] m
  unfold b_law_more
  simp only [aSeq, aSet, aC, aVar, aOp, aTest, aTru, aAnd, aOr, aNot, aAndV, aOrV, aNotV, aIfE, aNil, aCons, aTup, aLst, aLstB, aUn, aCa, aSl, aNo, aPart, aM, aML, aRet, aRetN, aIf, aDo, aNext, aCont, aBrk, aAsg, aCall, aCallX, aMeth, aFld, aSetFld, aFldAug, aAug, aRaise, aMake, aYes, kName, kCons, kNil, kSub, nth, put, wipeD, asT_b, fAdd_i, fAdd_s, fAdd_t, fAdd_l, fSub_i, fLt_i, fLe_i, fGt_i, fGe_i, fMul_i, fMod_i, fFdiv_i, fPow_i, fNeg_i, fEq_i, fEq_s, fEq_b, fNe_i, fNe_s, fNe_b, fIn_s, fNi_s, fIx_t0, fIx_t1, fIx_t2, fIx_l0, fIx_l1, fSl_s, fSl_t, fSl_l, fLen_t, fLen_l, fInt_i, fAbs_i, fMax_i, fMin_i, fTuple_t, fTuple_l, fList_t, fList_l, fRepS_s, seqOf_t, seqOf_l, truD_b, truD_t, truD_l, kTup_t, fIsN_n, fIsi_non_int, fIsi_non_bool, fIsi_non_str, fIsi_non_tuple, fIsi_non_list, fIsi_bl_int, fIsi_bl_bool, fIsi_bl_str, fIsi_bl_tuple, fIsi_bl_list, fIsi_int_int, fIsi_int_bool, fIsi_int_str, fIsi_int_tuple, fIsi_int_list, fIsi_str_int, fIsi_str_bool, fIsi_str_str, fIsi_str_tuple, fIsi_str_list, fIsi_tup_int, fIsi_tup_bool, fIsi_tup_str, fIsi_tup_tuple, fIsi_tup_list, fIsi_lst_int, fIsi_lst_bool, fIsi_lst_str, fIsi_lst_tuple, fIsi_lst_list, isN, fIx_sy0, fIx_sy1, ite_tt, ite_ff]
  refine ⟨by simp, c, s, 12, rfl, tp, by decide, by decide, fun r m1 r0 r1 t1 => ?_⟩
  refine ⟨by simp, c, s, 4, rfl, t1.tp, by decide, by decide, fun q m2 q0 q1 t2 => ?_⟩
  have t12 := t1.trans t2
  have es : ∃ st : Int, 0 ≤ st ∧ st ≤ 11 ∧ atI ([.int 1, .int 5, .int 7, .int 11] : List D) q = some (.int st) := by
    have : q = 0 ∨ q = 1 ∨ q = 2 ∨ q = 3 := by omega
    rcases this with rfl | rfl | rfl | rfl
    · exact ⟨1, by decide, by decide, rfl⟩
    · exact ⟨5, by decide, by decide, rfl⟩
    · exact ⟨7, by decide, by decide, rfl⟩
    · exact ⟨11, by decide, by decide, rfl⟩
  obtain ⟨st, s0, s1, es⟩ := es
  try simp only [aSeq, aSet, aC, aVar, aOp, aTest, aTru, aAnd, aOr, aNot, aAndV, aOrV, aNotV, aIfE, aNil, aCons, aTup, aLst, aLstB, aUn, aCa, aSl, aNo, aPart, aM, aML, aRet, aRetN, aIf, aDo, aNext, aCont, aBrk, aAsg, aCall, aCallX, aMeth, aFld, aSetFld, aFldAug, aAug, aRaise, aMake, aYes, kName, kCons, kNil, kSub, nth, put, wipeD, asT_b, fAdd_i, fAdd_s, fAdd_t, fAdd_l, fSub_i, fLt_i, fLe_i, fGt_i, fGe_i, fMul_i, fMod_i, fFdiv_i, fPow_i, fNeg_i, fEq_i, fEq_s, fEq_b, fNe_i, fNe_s, fNe_b, fIn_s, fNi_s, fIx_t0, fIx_t1, fIx_t2, fIx_l0, fIx_l1, fSl_s, fSl_t, fSl_l, fLen_t, fLen_l, fInt_i, fAbs_i, fMax_i, fMin_i, fTuple_t, fTuple_l, fList_t, fList_l, fRepS_s, seqOf_t, seqOf_l, truD_b, truD_t, truD_l, kTup_t, fIsN_n, fIsi_non_int, fIsi_non_bool, fIsi_non_str, fIsi_non_tuple, fIsi_non_list, fIsi_bl_int, fIsi_bl_bool, fIsi_bl_str, fIsi_bl_tuple, fIsi_bl_list, fIsi_int_int, fIsi_int_bool, fIsi_int_str, fIsi_int_tuple, fIsi_int_list, fIsi_str_int, fIsi_str_bool, fIsi_str_str, fIsi_str_tuple, fIsi_str_list, fIsi_tup_int, fIsi_tup_bool, fIsi_tup_str, fIsi_tup_tuple, fIsi_tup_list, fIsi_lst_int, fIsi_lst_bool, fIsi_lst_str, fIsi_lst_tuple, fIsi_lst_list, isN, fIx_sy0, fIx_sy1, ite_tt, ite_ff, fIx_l es]
  try simp only [aSeq, aSet, aC, aVar, aOp, aTest, aTru, aAnd, aOr, aNot, aAndV, aOrV, aNotV, aIfE, aNil, aCons, aTup, aLst, aLstB, aUn, aCa, aSl, aNo, aPart, aM, aML, aRet, aRetN, aIf, aDo, aNext, aCont, aBrk, aAsg, aCall, aCallX, aMeth, aFld, aSetFld, aFldAug, aAug, aRaise, aMake, aYes, kName, kCons, kNil, kSub, nth, put, wipeD, asT_b, fAdd_i, fAdd_s, fAdd_t, fAdd_l, fSub_i, fLt_i, fLe_i, fGt_i, fGe_i, fMul_i, fMod_i, fFdiv_i, fPow_i, fNeg_i, fEq_i, fEq_s, fEq_b, fNe_i, fNe_s, fNe_b, fIn_s, fNi_s, fIx_t0, fIx_t1, fIx_t2, fIx_l0, fIx_l1, fSl_s, fSl_t, fSl_l, fLen_t, fLen_l, fInt_i, fAbs_i, fMax_i, fMin_i, fTuple_t, fTuple_l, fList_t, fList_l, fRepS_s, seqOf_t, seqOf_l, truD_b, truD_t, truD_l, kTup_t, fIsN_n, fIsi_non_int, fIsi_non_bool, fIsi_non_str, fIsi_non_tuple, fIsi_non_list, fIsi_bl_int, fIsi_bl_bool, fIsi_bl_str, fIsi_bl_tuple, fIsi_bl_list, fIsi_int_int, fIsi_int_bool, fIsi_int_str, fIsi_int_tuple, fIsi_int_list, fIsi_str_int, fIsi_str_bool, fIsi_str_str, fIsi_str_tuple, fIsi_str_list, fIsi_tup_int, fIsi_tup_bool, fIsi_tup_str, fIsi_tup_tuple, fIsi_tup_list, fIsi_lst_int, fIsi_lst_bool, fIsi_lst_str, fIsi_lst_tuple, fIsi_lst_list, isN, fIx_sy0, fIx_sy1, ite_tt, ite_ff, aLcR]
  let f : Nat → Sy := fun i => ⟨wAt ((r + st * (i : Int)).fmod 12), mN i⟩
  have gf : ∀ i, goodSy (f i) := fun i => ⟨(wAt_ok _).1, by
    show mN i ≤ 4
    unfold mN
    have : i = 0 ∨ i = 1 ∨ i = 2 ∨ i = 3 ∨ 4 ≤ i := by omega
    rcases this with rfl | rfl | rfl | rfl | h
    · decide
    · decide
    · decide
    · decide
    · rw [List.getD_eq_getElem?_getD, List.getElem?_eq_none (by simpa using h)]
      decide, fun z => absurd z (wAt_ok _).2⟩
  refine ⟨by decide, by decide, fun p hp => lc_pure (fun i => some (syD (f i))) (by decide) (fun _ => trivial) (fun i acc hi h => ?_) ?_⟩
  · have hi : i < 4 := hi
    obtain ⟨f1, f2⟩ := fmod_in (a := r + st * (i : Int)) (b := 12) (by decide)
    have e2 := (nw_get f1 f2).2
    have e3 : atI ([.int 0, .int 1, .int 1, .int 2] : List D) (i : Int) = some (.int (mN i : Nat)) := by
      have : i = 0 ∨ i = 1 ∨ i = 2 ∨ i = 3 := by omega
      rcases this with rfl | rfl | rfl | rfl <;> rfl
    have hi2 : (i : Int) ≤ 3 := by omega
    have hb : st * (i : Int) ≤ 33 := by
      have : i = 0 ∨ i = 1 ∨ i = 2 ∨ i = 3 := by omega
      rcases this with rfl | rfl | rfl | rfl <;> omega
    try simp only [aSeq, aSet, aC, aVar, aOp, aTest, aTru, aAnd, aOr, aNot, aAndV, aOrV, aNotV, aIfE, aNil, aCons, aTup, aLst, aLstB, aUn, aCa, aSl, aNo, aPart, aM, aML, aRet, aRetN, aIf, aDo, aNext, aCont, aBrk, aAsg, aCall, aCallX, aMeth, aFld, aSetFld, aFldAug, aAug, aRaise, aMake, aYes, kName, kCons, kNil, kSub, nth, put, wipeD, asT_b, fAdd_i, fAdd_s, fAdd_t, fAdd_l, fSub_i, fLt_i, fLe_i, fGt_i, fGe_i, fMul_i, fMod_i, fFdiv_i, fPow_i, fNeg_i, fEq_i, fEq_s, fEq_b, fNe_i, fNe_s, fNe_b, fIn_s, fNi_s, fIx_t0, fIx_t1, fIx_t2, fIx_l0, fIx_l1, fSl_s, fSl_t, fSl_l, fLen_t, fLen_l, fInt_i, fAbs_i, fMax_i, fMin_i, fTuple_t, fTuple_l, fList_t, fList_l, fRepS_s, seqOf_t, seqOf_l, truD_b, truD_t, truD_l, kTup_t, fIsN_n, fIsi_non_int, fIsi_non_bool, fIsi_non_str, fIsi_non_tuple, fIsi_non_list, fIsi_bl_int, fIsi_bl_bool, fIsi_bl_str, fIsi_bl_tuple, fIsi_bl_list, fIsi_int_int, fIsi_int_bool, fIsi_int_str, fIsi_int_tuple, fIsi_int_list, fIsi_str_int, fIsi_str_bool, fIsi_str_str, fIsi_str_tuple, fIsi_str_list, fIsi_tup_int, fIsi_tup_bool, fIsi_tup_str, fIsi_tup_tuple, fIsi_tup_list, fIsi_lst_int, fIsi_lst_bool, fIsi_lst_str, fIsi_lst_tuple, fIsi_lst_list, isN, fIx_sy0, fIx_sy1, ite_tt, ite_ff, fIx_l e2, fIx_l e3]
    rw [if_pos trivial]
    exact ⟨mul_small s0 (by omega) (by omega) (by omega), by decide, by simp, by simp, pvF_yes h rfl⟩
  · have el : (List.range (Int.toNat 4)).filterMap (fun i => some (syD (f i))) = [f 0, f 1, f 2, f 3].map syD := rfl
    rw [el, if_pos trivial, mdel_mset (by exact hp)]
    have e1 : atI ([f 0, f 1, f 2, f 3].map syD) 1 = some (syD (f 1)) := rfl
    try simp only [aSeq, aSet, aC, aVar, aOp, aTest, aTru, aAnd, aOr, aNot, aAndV, aOrV, aNotV, aIfE, aNil, aCons, aTup, aLst, aLstB, aUn, aCa, aSl, aNo, aPart, aM, aML, aRet, aRetN, aIf, aDo, aNext, aCont, aBrk, aAsg, aCall, aCallX, aMeth, aFld, aSetFld, aFldAug, aAug, aRaise, aMake, aYes, kName, kCons, kNil, kSub, nth, put, wipeD, asT_b, fAdd_i, fAdd_s, fAdd_t, fAdd_l, fSub_i, fLt_i, fLe_i, fGt_i, fGe_i, fMul_i, fMod_i, fFdiv_i, fPow_i, fNeg_i, fEq_i, fEq_s, fEq_b, fNe_i, fNe_s, fNe_b, fIn_s, fNi_s, fIx_t0, fIx_t1, fIx_t2, fIx_l0, fIx_l1, fSl_s, fSl_t, fSl_l, fLen_t, fLen_l, fInt_i, fAbs_i, fMax_i, fMin_i, fTuple_t, fTuple_l, fList_t, fList_l, fRepS_s, seqOf_t, seqOf_l, truD_b, truD_t, truD_l, kTup_t, fIsN_n, fIsi_non_int, fIsi_non_bool, fIsi_non_str, fIsi_non_tuple, fIsi_non_list, fIsi_bl_int, fIsi_bl_bool, fIsi_bl_str, fIsi_bl_tuple, fIsi_bl_list, fIsi_int_int, fIsi_int_bool, fIsi_int_str, fIsi_int_tuple, fIsi_int_list, fIsi_str_int, fIsi_str_bool, fIsi_str_str, fIsi_str_tuple, fIsi_str_list, fIsi_tup_int, fIsi_tup_bool, fIsi_tup_str, fIsi_tup_tuple, fIsi_tup_list, fIsi_lst_int, fIsi_lst_bool, fIsi_lst_str, fIsi_lst_tuple, fIsi_lst_list, isN, fIx_sy0, fIx_sy1, ite_tt, ite_ff, fIx_l e1]
    refine ⟨by simp, by simp, by simp, fzE.of ?_⟩
    have e5 : [f 0, f 1, f 2, f 3].map syD ++ [.tup [.str (tx (f 1).w), .int 0]] = [f 0, f 1, f 2, f 3, ⟨(f 1).w, 0⟩].map syD := rfl
    rw [e5]
    refine hq _ _ ⟨⟨(f 0).w, (f 1).w, (f 2).w, (f 3).w, rfl⟩, fun x hx => ?_⟩ t12
    simp only [List.mem_cons, List.not_mem_nil, or_false] at hx
    rcases hx with rfl | rfl | rfl | rfl | rfl
    · exact gf 0
    · exact gf 1
    · exact gf 2
    · exact gf 3
    · exact ⟨(gf 1).1, Nat.zero_le _, fun _ => rfl⟩
/-! ### a row near another one -/
def fromR (ms mo : List Sy) (r : Rw) : Prop := ∀ x ∈ r, x ∈ ms ∨ x ∈ mo
theorem from_good {ms mo : List Sy} {r : Rw} (h1 : MarksOk ms) (h2 : MoreOk mo) (h : fromR ms mo r) : ∀ x ∈ r, goodSy x := fun x hx => (h x hx).elim (h1.good x) (h2.good x)
structure Near (ms mo : List Sy) (n : Nat) (r : Rw) : Prop where
  wh : whole r
  fr : fromR ms mo r
  few : r.length ≤ n
theorem Near.tree {ms mo : List Sy} {n : Nat} {r : Rw} (h : Near ms mo n r) (h1 : MarksOk ms) (h2 : MoreOk mo) (hn : n ≤ 500) : Tree r := ⟨h.wh, from_good h1 h2 h.fr, by have := h.few; omega⟩
theorem whole_pos {r : Rw} (h : whole r) : 0 < r.length := by
  cases r with
  | nil => cases h
  | cons => simp
/-- a symbol with one part put in -/
theorem whole_ins {r : Rw} (h : whole r) {k : Nat} (hk : k < r.length) {x : Sy} (hx : x.n = 1) : whole (r.take k ++ [x] ++ r.drop k) := by
  obtain ⟨j, hj⟩ := run_take r 1 k h hk
  have h1 : run r 1 = some 0 := h
  rw [← List.take_append_drop k r, run_app, hj] at h1
  show run _ 1 = some 0
  rw [run_app, run_app, hj]
  show (run [x] (j + 1)).bind _ = some 0
  have e : run [x] (j + 1) = some (j + x.n) := rfl
  rw [e, hx]
  exact h1
/-- a symbol turned into one with as many parts -/
theorem whole_turn {r : Rw} (h : whole r) {k : Nat} (hk : k < r.length) {x : Sy} (hx : x.n = r[k].n) : whole (r.take k ++ [x] ++ r.drop (k + 1)) := by
  obtain ⟨j, hj⟩ := run_take r 1 k h hk
  have h1 : run r 1 = some 0 := h
  rw [← List.take_append_drop k r, run_app, hj, List.drop_eq_getElem_cons hk] at h1
  have h1 : run (r.drop (k + 1)) (j + r[k].n) = some 0 := h1
  show run _ 1 = some 0
  rw [run_app, run_app, hj]
  show (run [x] (j + 1)).bind _ = some 0
  have e : run [x] (j + 1) = some (j + x.n) := rfl
  rw [e, hx]
  exact h1
theorem from_cut {ms mo : List Sy} {r p : Rw} {a b : Nat} (h : fromR ms mo r) (hp : fromR ms mo p) : fromR ms mo (r.take a ++ p ++ r.drop b) := fun x hx => by
  rcases List.mem_append.mp hx with z | z
  · rcases List.mem_append.mp z with z | z
    · exact h x (List.mem_of_mem_take z)
    · exact hp x z
  · exact h x (List.mem_of_mem_drop z)
theorem cut_map (r p : Rw) (a b : Nat) : (r.map syD).take a ++ p.map syD ++ (r.map syD).drop b = (r.take a ++ p ++ r.drop b).map syD := by
  rw [List.map_append, List.map_append, List.map_take, List.map_drop]
theorem fm_filter {α : Type} (q : α → Bool) (g : α → D) {h : α → Option D} (hh : ∀ x, h x = if q x = true then some (g x) else none) (l : List α) : (List.range l.length).filterMap (fun i => (l[i]?).bind h) = (l.filter q).map g := by
  have : ∀ k, k ≤ l.length → (List.range k).filterMap (fun i => (l[i]?).bind h) = ((l.take k).filter q).map g := by
    intro k
    induction k with
    | zero =>
      intro _
      rfl
    | succ k ih =>
      intro hk
      have hlt : k < l.length := hk
      rw [List.range_succ, List.filterMap_append, ih (by omega), List.take_succ, List.filter_append, List.map_append, List.getElem?_eq_getElem hlt]
      congr 1
      show ([k].filterMap fun i => (l[i]?).bind h) = (([l[k]]).filter q).map g
      rw [List.filterMap_cons, List.getElem?_eq_getElem hlt]
      have e0 : (some l[k]).bind h = if q l[k] = true then some (g l[k]) else none := hh l[k]
      rw [e0]
      cases e : q l[k] <;> simp [e]
  have h2 := this l.length (Nat.le_refl _)
  rw [List.take_length] at h2
  exact h2
def sp_law_twin : ASp := fun ds m P _ => ∃ (c s : Addr) (ms mo : List Sy) (r : Rw), ds = [tapeD c s, .lst (ms.map syD), .lst (mo.map syD), rowD r] ∧ TapeIn m c s ∧ MarksOk ms ∧ MoreOk mo ∧ Near ms mo 30 r ∧ ∀ t m', Near ms mo 40 t → Tp c s m m' → P (rowD t) m'
theorem rd_law_twin : ∀ ds m Q W, sp_law_twin ds m Q W → b_law_twin sp_law_far sp_law_pick sp_law_tree W { nx := fun _ m' => fzE K Q .non m', rt := fzE K Q } (ds.map some ++ List.replicate (N_law_twin.length - ds.length) none) m := by
  rintro ds m Q W ⟨c, s, ms, mo, r, rfl, tp, hms, hmo, hr, hq⟩
  change b_law_twin _ _ _ W _ [some (tapeD c s), some (.lst (ms.map syD)), some (.lst (mo.map syD)), some (rowD r), none, none, none, none] m
  unfold b_law_twin
  have hpos := whole_pos hr.wh
  have hfew := hr.few
  simp only [aSeq, aSet, aC, aVar, aOp, aTest, aTru, aAnd, aOr, aNot, aAndV, aOrV, aNotV, aIfE, aNil, aCons, aTup, aLst, aLstB, aUn, aCa, aSl, aNo, aPart, aM, aML, aRet, aRetN, aIf, aDo, aNext, aCont, aBrk, aAsg, aCall, aCallX, aMeth, aFld, aSetFld, aFldAug, aAug, aRaise, aMake, aYes, kName, kCons, kNil, kSub, nth, put, wipeD, asT_b, fAdd_i, fAdd_s, fAdd_t, fAdd_l, fSub_i, fLt_i, fLe_i, fGt_i, fGe_i, fMul_i, fMod_i, fFdiv_i, fPow_i, fNeg_i, fEq_i, fEq_s, fEq_b, fNe_i, fNe_s, fNe_b, fIn_s, fNi_s, fIx_t0, fIx_t1, fIx_t2, fIx_l0, fIx_l1, fSl_s, fSl_t, fSl_l, fLen_t, fLen_l, fInt_i, fAbs_i, fMax_i, fMin_i, fTuple_t, fTuple_l, fList_t, fList_l, fRepS_s, seqOf_t, seqOf_l, truD_b, truD_t, truD_l, kTup_t, fIsN_n, fIsi_non_int, fIsi_non_bool, fIsi_non_str, fIsi_non_tuple, fIsi_non_list, fIsi_bl_int, fIsi_bl_bool, fIsi_bl_str, fIsi_bl_tuple, fIsi_bl_list, fIsi_int_int, fIsi_int_bool, fIsi_int_str, fIsi_int_tuple, fIsi_int_list, fIsi_str_int, fIsi_str_bool, fIsi_str_str, fIsi_str_tuple, fIsi_str_list, fIsi_tup_int, fIsi_tup_bool, fIsi_tup_str, fIsi_tup_tuple, fIsi_tup_list, fIsi_lst_int, fIsi_lst_bool, fIsi_lst_str, fIsi_lst_tuple, fIsi_lst_list, isN, fIx_sy0, fIx_sy1, ite_tt, ite_ff, fLen_row]
  refine ⟨c, s, r.length, rfl, tp, by omega, by omega, fun i m1 h0 h1 t1 => ?_⟩
  obtain ⟨k, rfl⟩ := nn_of h0
  have hk : k < r.length := by omega
  refine ⟨c, s, 4, rfl, t1.tp, by decide, by decide, fun way m2 w0 w1 t2 => ?_⟩
  have t12 := t1.trans t2
  refine cut_plain ?_
  try simp only [aSeq, aSet, aC, aVar, aOp, aTest, aTru, aAnd, aOr, aNot, aAndV, aOrV, aNotV, aIfE, aNil, aCons, aTup, aLst, aLstB, aUn, aCa, aSl, aNo, aPart, aM, aML, aRet, aRetN, aIf, aDo, aNext, aCont, aBrk, aAsg, aCall, aCallX, aMeth, aFld, aSetFld, aFldAug, aAug, aRaise, aMake, aYes, kName, kCons, kNil, kSub, nth, put, wipeD, asT_b, fAdd_i, fAdd_s, fAdd_t, fAdd_l, fSub_i, fLt_i, fLe_i, fGt_i, fGe_i, fMul_i, fMod_i, fFdiv_i, fPow_i, fNeg_i, fEq_i, fEq_s, fEq_b, fNe_i, fNe_s, fNe_b, fIn_s, fNi_s, fIx_t0, fIx_t1, fIx_t2, fIx_l0, fIx_l1, fSl_s, fSl_t, fSl_l, fLen_t, fLen_l, fInt_i, fAbs_i, fMax_i, fMin_i, fTuple_t, fTuple_l, fList_t, fList_l, fRepS_s, seqOf_t, seqOf_l, truD_b, truD_t, truD_l, kTup_t, fIsN_n, fIsi_non_int, fIsi_non_bool, fIsi_non_str, fIsi_non_tuple, fIsi_non_list, fIsi_bl_int, fIsi_bl_bool, fIsi_bl_str, fIsi_bl_tuple, fIsi_bl_list, fIsi_int_int, fIsi_int_bool, fIsi_int_str, fIsi_int_tuple, fIsi_int_list, fIsi_str_int, fIsi_str_bool, fIsi_str_str, fIsi_str_tuple, fIsi_str_list, fIsi_tup_int, fIsi_tup_bool, fIsi_tup_str, fIsi_tup_tuple, fIsi_tup_list, fIsi_lst_int, fIsi_lst_bool, fIsi_lst_str, fIsi_lst_tuple, fIsi_lst_list, isN, fIx_sy0, fIx_sy1, ite_tt, ite_ff]
  by_cases hw0 : way = 0
  · subst hw0
    try simp only [aSeq, aSet, aC, aVar, aOp, aTest, aTru, aAnd, aOr, aNot, aAndV, aOrV, aNotV, aIfE, aNil, aCons, aTup, aLst, aLstB, aUn, aCa, aSl, aNo, aPart, aM, aML, aRet, aRetN, aIf, aDo, aNext, aCont, aBrk, aAsg, aCall, aCallX, aMeth, aFld, aSetFld, aFldAug, aAug, aRaise, aMake, aYes, kName, kCons, kNil, kSub, nth, put, wipeD, asT_b, fAdd_i, fAdd_s, fAdd_t, fAdd_l, fSub_i, fLt_i, fLe_i, fGt_i, fGe_i, fMul_i, fMod_i, fFdiv_i, fPow_i, fNeg_i, fEq_i, fEq_s, fEq_b, fNe_i, fNe_s, fNe_b, fIn_s, fNi_s, fIx_t0, fIx_t1, fIx_t2, fIx_l0, fIx_l1, fSl_s, fSl_t, fSl_l, fLen_t, fLen_l, fInt_i, fAbs_i, fMax_i, fMin_i, fTuple_t, fTuple_l, fList_t, fList_l, fRepS_s, seqOf_t, seqOf_l, truD_b, truD_t, truD_l, kTup_t, fIsN_n, fIsi_non_int, fIsi_non_bool, fIsi_non_str, fIsi_non_tuple, fIsi_non_list, fIsi_bl_int, fIsi_bl_bool, fIsi_bl_str, fIsi_bl_tuple, fIsi_bl_list, fIsi_int_int, fIsi_int_bool, fIsi_int_str, fIsi_int_tuple, fIsi_int_list, fIsi_str_int, fIsi_str_bool, fIsi_str_str, fIsi_str_tuple, fIsi_str_list, fIsi_tup_int, fIsi_tup_bool, fIsi_tup_str, fIsi_tup_tuple, fIsi_tup_list, fIsi_lst_int, fIsi_lst_bool, fIsi_lst_str, fIsi_lst_tuple, fIsi_lst_list, isN, fIx_sy0, fIx_sy1, ite_tt, ite_ff, fSl_row, cutD_z]
    simp only [decide_true, if_true]
    refine ⟨c, s, 5, rfl, t12.tp, by decide, by decide, fun q m3 q0 q1 t3 => ?_⟩
    obtain ⟨q, rfl⟩ := nn_of q0
    try simp only [aSeq, aSet, aC, aVar, aOp, aTest, aTru, aAnd, aOr, aNot, aAndV, aOrV, aNotV, aIfE, aNil, aCons, aTup, aLst, aLstB, aUn, aCa, aSl, aNo, aPart, aM, aML, aRet, aRetN, aIf, aDo, aNext, aCont, aBrk, aAsg, aCall, aCallX, aMeth, aFld, aSetFld, aFldAug, aAug, aRaise, aMake, aYes, kName, kCons, kNil, kSub, nth, put, wipeD, asT_b, fAdd_i, fAdd_s, fAdd_t, fAdd_l, fSub_i, fLt_i, fLe_i, fGt_i, fGe_i, fMul_i, fMod_i, fFdiv_i, fPow_i, fNeg_i, fEq_i, fEq_s, fEq_b, fNe_i, fNe_s, fNe_b, fIn_s, fNi_s, fIx_t0, fIx_t1, fIx_t2, fIx_l0, fIx_l1, fSl_s, fSl_t, fSl_l, fLen_t, fLen_l, fInt_i, fAbs_i, fMax_i, fMin_i, fTuple_t, fTuple_l, fList_t, fList_l, fRepS_s, seqOf_t, seqOf_l, truD_b, truD_t, truD_l, kTup_t, fIsN_n, fIsi_non_int, fIsi_non_bool, fIsi_non_str, fIsi_non_tuple, fIsi_non_list, fIsi_bl_int, fIsi_bl_bool, fIsi_bl_str, fIsi_bl_tuple, fIsi_bl_list, fIsi_int_int, fIsi_int_bool, fIsi_int_str, fIsi_int_tuple, fIsi_int_list, fIsi_str_int, fIsi_str_bool, fIsi_str_str, fIsi_str_tuple, fIsi_str_list, fIsi_tup_int, fIsi_tup_bool, fIsi_tup_str, fIsi_tup_tuple, fIsi_tup_list, fIsi_lst_int, fIsi_lst_bool, fIsi_lst_str, fIsi_lst_tuple, fIsi_lst_list, isN, fIx_sy0, fIx_sy1, ite_tt, ite_ff]
    refine ⟨c, s, ms, 1 + q, by rw [int_eq (show (1 : Int) + (q : Int) = ((1 + q : Nat) : Int) by omega)], (t12.trans t3).tp, hms, by omega, by omega, fun t m4 wt lt gt t4 => ?_⟩
    try simp only [aSeq, aSet, aC, aVar, aOp, aTest, aTru, aAnd, aOr, aNot, aAndV, aOrV, aNotV, aIfE, aNil, aCons, aTup, aLst, aLstB, aUn, aCa, aSl, aNo, aPart, aM, aML, aRet, aRetN, aIf, aDo, aNext, aCont, aBrk, aAsg, aCall, aCallX, aMeth, aFld, aSetFld, aFldAug, aAug, aRaise, aMake, aYes, kName, kCons, kNil, kSub, nth, put, wipeD, asT_b, fAdd_i, fAdd_s, fAdd_t, fAdd_l, fSub_i, fLt_i, fLe_i, fGt_i, fGe_i, fMul_i, fMod_i, fFdiv_i, fPow_i, fNeg_i, fEq_i, fEq_s, fEq_b, fNe_i, fNe_s, fNe_b, fIn_s, fNi_s, fIx_t0, fIx_t1, fIx_t2, fIx_l0, fIx_l1, fSl_s, fSl_t, fSl_l, fLen_t, fLen_l, fInt_i, fAbs_i, fMax_i, fMin_i, fTuple_t, fTuple_l, fList_t, fList_l, fRepS_s, seqOf_t, seqOf_l, truD_b, truD_t, truD_l, kTup_t, fIsN_n, fIsi_non_int, fIsi_non_bool, fIsi_non_str, fIsi_non_tuple, fIsi_non_list, fIsi_bl_int, fIsi_bl_bool, fIsi_bl_str, fIsi_bl_tuple, fIsi_bl_list, fIsi_int_int, fIsi_int_bool, fIsi_int_str, fIsi_int_tuple, fIsi_int_list, fIsi_str_int, fIsi_str_bool, fIsi_str_str, fIsi_str_tuple, fIsi_str_list, fIsi_tup_int, fIsi_tup_bool, fIsi_tup_str, fIsi_tup_tuple, fIsi_tup_list, fIsi_lst_int, fIsi_lst_bool, fIsi_lst_str, fIsi_lst_tuple, fIsi_lst_list, isN, fIx_sy0, fIx_sy1, ite_tt, ite_ff]
    have ft : fromR ms mo t := fun x hx => .inl (gt x hx)
    rw [show rowD t = .tup (t.map syD) from rfl, fAdd_t]
    refine ⟨?_, r, k, rfl, by omega, whole_piece hr.wh hk, ?_⟩
    · rw [List.length_take, List.length_map, List.length_map]
      omega
    show fAdd _ (.tup (cutD (r.map syD) (some ((k + far (r.drop k) 1 : Nat) : Int)) none)) m4 _
    rw [cutD_n, fAdd_t, cut_map]
    refine ⟨?_, fzE.of (hq _ _ ⟨whole_put hr.wh wt hk, from_cut hr.fr ft, ?_⟩ ((t12.trans t3).trans t4))⟩
    · simp only [List.length_append, List.length_take, List.length_drop, List.length_map]
      omega
    · have := put_len r t k
      unfold putR at this
      omega
  · simp only [hw0, decide_false, Bool.false_eq_true, if_false]
    refine cut_plain ?_
    try simp only [aSeq, aSet, aC, aVar, aOp, aTest, aTru, aAnd, aOr, aNot, aAndV, aOrV, aNotV, aIfE, aNil, aCons, aTup, aLst, aLstB, aUn, aCa, aSl, aNo, aPart, aM, aML, aRet, aRetN, aIf, aDo, aNext, aCont, aBrk, aAsg, aCall, aCallX, aMeth, aFld, aSetFld, aFldAug, aAug, aRaise, aMake, aYes, kName, kCons, kNil, kSub, nth, put, wipeD, asT_b, fAdd_i, fAdd_s, fAdd_t, fAdd_l, fSub_i, fLt_i, fLe_i, fGt_i, fGe_i, fMul_i, fMod_i, fFdiv_i, fPow_i, fNeg_i, fEq_i, fEq_s, fEq_b, fNe_i, fNe_s, fNe_b, fIn_s, fNi_s, fIx_t0, fIx_t1, fIx_t2, fIx_l0, fIx_l1, fSl_s, fSl_t, fSl_l, fLen_t, fLen_l, fInt_i, fAbs_i, fMax_i, fMin_i, fTuple_t, fTuple_l, fList_t, fList_l, fRepS_s, seqOf_t, seqOf_l, truD_b, truD_t, truD_l, kTup_t, fIsN_n, fIsi_non_int, fIsi_non_bool, fIsi_non_str, fIsi_non_tuple, fIsi_non_list, fIsi_bl_int, fIsi_bl_bool, fIsi_bl_str, fIsi_bl_tuple, fIsi_bl_list, fIsi_int_int, fIsi_int_bool, fIsi_int_str, fIsi_int_tuple, fIsi_int_list, fIsi_str_int, fIsi_str_bool, fIsi_str_str, fIsi_str_tuple, fIsi_str_list, fIsi_tup_int, fIsi_tup_bool, fIsi_tup_str, fIsi_tup_tuple, fIsi_tup_list, fIsi_lst_int, fIsi_lst_bool, fIsi_lst_str, fIsi_lst_tuple, fIsi_lst_list, isN, fIx_sy0, fIx_sy1, ite_tt, ite_ff]
    by_cases hw1 : way = 1
    · subst hw1
      simp only [decide_true, if_true]
      rw [fSl_row, cutD_z]
      refine ⟨c, s, 2, rfl, t12.tp, by decide, by decide, fun q m3 q0 q1 t3 => ?_⟩
      obtain ⟨a, b, c2, d, em⟩ := hmo.ex
      obtain ⟨x, hx, hx1, ex⟩ : ∃ x, x ∈ mo ∧ x.n = 1 ∧ atI (mo.map syD) (1 + q) = some (syD x) := by
        have : q = 0 ∨ q = 1 := by omega
        rw [em]
        rcases this with rfl | rfl
        · exact ⟨⟨b, 1⟩, by simp, rfl, rfl⟩
        · exact ⟨⟨c2, 1⟩, by simp, rfl, rfl⟩
      try simp only [aSeq, aSet, aC, aVar, aOp, aTest, aTru, aAnd, aOr, aNot, aAndV, aOrV, aNotV, aIfE, aNil, aCons, aTup, aLst, aLstB, aUn, aCa, aSl, aNo, aPart, aM, aML, aRet, aRetN, aIf, aDo, aNext, aCont, aBrk, aAsg, aCall, aCallX, aMeth, aFld, aSetFld, aFldAug, aAug, aRaise, aMake, aYes, kName, kCons, kNil, kSub, nth, put, wipeD, asT_b, fAdd_i, fAdd_s, fAdd_t, fAdd_l, fSub_i, fLt_i, fLe_i, fGt_i, fGe_i, fMul_i, fMod_i, fFdiv_i, fPow_i, fNeg_i, fEq_i, fEq_s, fEq_b, fNe_i, fNe_s, fNe_b, fIn_s, fNi_s, fIx_t0, fIx_t1, fIx_t2, fIx_l0, fIx_l1, fSl_s, fSl_t, fSl_l, fLen_t, fLen_l, fInt_i, fAbs_i, fMax_i, fMin_i, fTuple_t, fTuple_l, fList_t, fList_l, fRepS_s, seqOf_t, seqOf_l, truD_b, truD_t, truD_l, kTup_t, fIsN_n, fIsi_non_int, fIsi_non_bool, fIsi_non_str, fIsi_non_tuple, fIsi_non_list, fIsi_bl_int, fIsi_bl_bool, fIsi_bl_str, fIsi_bl_tuple, fIsi_bl_list, fIsi_int_int, fIsi_int_bool, fIsi_int_str, fIsi_int_tuple, fIsi_int_list, fIsi_str_int, fIsi_str_bool, fIsi_str_str, fIsi_str_tuple, fIsi_str_list, fIsi_tup_int, fIsi_tup_bool, fIsi_tup_str, fIsi_tup_tuple, fIsi_tup_list, fIsi_lst_int, fIsi_lst_bool, fIsi_lst_str, fIsi_lst_tuple, fIsi_lst_list, isN, fIx_sy0, fIx_sy1, ite_tt, ite_ff, fIx_l ex]
      refine ⟨by simp, ?_, ?_⟩
      · rw [List.length_take, List.length_map]
        show _ + 1 ≤ _
        omega
      rw [fSl_row, cutD_n, show [syD x] = [x].map syD from rfl, fAdd_t, cut_map]
      refine ⟨?_, fzE.of (hq _ _ ⟨whole_ins hr.wh hk hx1, from_cut hr.fr fun y hy => ?_, ?_⟩ (t12.trans t3))⟩
      · simp only [List.length_append, List.length_take, List.length_drop, List.length_map, List.length_cons, List.length_nil]
        omega
      · rw [List.mem_singleton.mp hy]
        exact .inr hx
      · simp only [List.length_append, List.length_take, List.length_drop, List.length_cons, List.length_nil]
        omega
    · simp only [hw1, decide_false, Bool.false_eq_true, if_false]
      try simp only [aSeq, aSet, aC, aVar, aOp, aTest, aTru, aAnd, aOr, aNot, aAndV, aOrV, aNotV, aIfE, aNil, aCons, aTup, aLst, aLstB, aUn, aCa, aSl, aNo, aPart, aM, aML, aRet, aRetN, aIf, aDo, aNext, aCont, aBrk, aAsg, aCall, aCallX, aMeth, aFld, aSetFld, aFldAug, aAug, aRaise, aMake, aYes, kName, kCons, kNil, kSub, nth, put, wipeD, asT_b, fAdd_i, fAdd_s, fAdd_t, fAdd_l, fSub_i, fLt_i, fLe_i, fGt_i, fGe_i, fMul_i, fMod_i, fFdiv_i, fPow_i, fNeg_i, fEq_i, fEq_s, fEq_b, fNe_i, fNe_s, fNe_b, fIn_s, fNi_s, fIx_t0, fIx_t1, fIx_t2, fIx_l0, fIx_l1, fSl_s, fSl_t, fSl_l, fLen_t, fLen_l, fInt_i, fAbs_i, fMax_i, fMin_i, fTuple_t, fTuple_l, fList_t, fList_l, fRepS_s, seqOf_t, seqOf_l, truD_b, truD_t, truD_l, kTup_t, fIsN_n, fIsi_non_int, fIsi_non_bool, fIsi_non_str, fIsi_non_tuple, fIsi_non_list, fIsi_bl_int, fIsi_bl_bool, fIsi_bl_str, fIsi_bl_tuple, fIsi_bl_list, fIsi_int_int, fIsi_int_bool, fIsi_int_str, fIsi_int_tuple, fIsi_int_list, fIsi_str_int, fIsi_str_bool, fIsi_str_str, fIsi_str_tuple, fIsi_str_list, fIsi_tup_int, fIsi_tup_bool, fIsi_tup_str, fIsi_tup_tuple, fIsi_tup_list, fIsi_lst_int, fIsi_lst_bool, fIsi_lst_str, fIsi_lst_tuple, fIsi_lst_list, isN, fIx_sy0, fIx_sy1, ite_tt, ite_ff, aLc]
      have l1 := hms.few
      have l2 : mo.length = 5 := by
        obtain ⟨a, b, c2, d, em⟩ := hmo.ex
        rw [em]
        rfl
      refine ⟨by rw [List.length_map, List.length_map]; omega, ms.map syD ++ mo.map syD, rfl, fun p hp => ?_⟩
      rw [← List.map_append]
      have hl : (ms ++ mo).length ≤ 25 := by rw [List.length_append]; omega
      have hn : ∃ x ∈ ms ++ mo, x.n = r[k].n := ⟨r[k], by rw [List.mem_append]; exact hr.fr _ (List.getElem_mem hk), rfl⟩
      have hmem : ∀ x ∈ ms ++ mo, x ∈ ms ∨ x ∈ mo := fun x hx => List.mem_append.mp hx
      generalize ms ++ mo = L at *
      have er : ∀ {m' : Mu} {P : PD}, fIx (rowD r) (.int (k : Int)) m' P = P (syD r[k]) m' := fIx_row (List.getElem?_eq_getElem hk)
      refine lc_pure (fun i => (L[i]?).bind fun x => if x.n = r[k].n then some (syD x) else none) (by rw [List.length_map]; omega) (fun _ => rfl) (fun i acc hi h => ?_) ?_
      · have hi : i < L.length := by simpa using hi
        have e : (L.map syD).getD i .non = syD L[i] := by simp [hi]
        rw [e]
        try simp only [aSeq, aSet, aC, aVar, aOp, aTest, aTru, aAnd, aOr, aNot, aAndV, aOrV, aNotV, aIfE, aNil, aCons, aTup, aLst, aLstB, aUn, aCa, aSl, aNo, aPart, aM, aML, aRet, aRetN, aIf, aDo, aNext, aCont, aBrk, aAsg, aCall, aCallX, aMeth, aFld, aSetFld, aFldAug, aAug, aRaise, aMake, aYes, kName, kCons, kNil, kSub, nth, put, wipeD, asT_b, fAdd_i, fAdd_s, fAdd_t, fAdd_l, fSub_i, fLt_i, fLe_i, fGt_i, fGe_i, fMul_i, fMod_i, fFdiv_i, fPow_i, fNeg_i, fEq_i, fEq_s, fEq_b, fNe_i, fNe_s, fNe_b, fIn_s, fNi_s, fIx_t0, fIx_t1, fIx_t2, fIx_l0, fIx_l1, fSl_s, fSl_t, fSl_l, fLen_t, fLen_l, fInt_i, fAbs_i, fMax_i, fMin_i, fTuple_t, fTuple_l, fList_t, fList_l, fRepS_s, seqOf_t, seqOf_l, truD_b, truD_t, truD_l, kTup_t, fIsN_n, fIsi_non_int, fIsi_non_bool, fIsi_non_str, fIsi_non_tuple, fIsi_non_list, fIsi_bl_int, fIsi_bl_bool, fIsi_bl_str, fIsi_bl_tuple, fIsi_bl_list, fIsi_int_int, fIsi_int_bool, fIsi_int_str, fIsi_int_tuple, fIsi_int_list, fIsi_str_int, fIsi_str_bool, fIsi_str_str, fIsi_str_tuple, fIsi_str_list, fIsi_tup_int, fIsi_tup_bool, fIsi_tup_str, fIsi_tup_tuple, fIsi_tup_list, fIsi_lst_int, fIsi_lst_bool, fIsi_lst_str, fIsi_lst_tuple, fIsi_lst_list, isN, fIx_sy0, fIx_sy1, ite_tt, ite_ff, er]
        have ei : L[i]? = some L[i] := List.getElem?_eq_getElem hi
        by_cases hz : L[i].n = r[k].n
        · rw [decide_eq_true (by omega), if_pos rfl]
          exact pvF_yes h (by rw [ei]; exact if_pos hz)
        · rw [decide_eq_false (by omega), if_neg (by decide)]
          exact pvF_no h (by rw [ei]; exact if_neg hz)
      · have ef : (List.range (L.map syD).length).filterMap (fun i => (L[i]?).bind fun x => if x.n = r[k].n then some (syD x) else none) = (L.filter fun x => decide (x.n = r[k].n)).map syD := by
          rw [List.length_map]
          exact fm_filter (fun x => decide (x.n = r[k].n)) syD (h := fun x => if x.n = r[k].n then some (syD x) else none) (fun x => by simp only [decide_eq_true_eq]) L
        rw [ef, if_pos trivial, mdel_mset hp]
        have hF : ∀ x ∈ L.filter (fun x => decide (x.n = r[k].n)), x ∈ L ∧ x.n = r[k].n := fun x hx => by
          have := List.mem_filter.mp hx
          exact ⟨this.1, by simpa using this.2⟩
        have hFn : 0 < (L.filter fun x => decide (x.n = r[k].n)).length := by
          obtain ⟨x, hx, hn⟩ := hn
          exact List.length_pos_of_mem (List.mem_filter.mpr ⟨hx, by simpa using hn⟩)
        have hFl : (L.filter fun x => decide (x.n = r[k].n)).length ≤ L.length := List.length_filter_le _ _
        generalize L.filter (fun x => decide (x.n = r[k].n)) = F at *
        rw [fSl_row, cutD_z]
        try simp only [aSeq, aSet, aC, aVar, aOp, aTest, aTru, aAnd, aOr, aNot, aAndV, aOrV, aNotV, aIfE, aNil, aCons, aTup, aLst, aLstB, aUn, aCa, aSl, aNo, aPart, aM, aML, aRet, aRetN, aIf, aDo, aNext, aCont, aBrk, aAsg, aCall, aCallX, aMeth, aFld, aSetFld, aFldAug, aAug, aRaise, aMake, aYes, kName, kCons, kNil, kSub, nth, put, wipeD, asT_b, fAdd_i, fAdd_s, fAdd_t, fAdd_l, fSub_i, fLt_i, fLe_i, fGt_i, fGe_i, fMul_i, fMod_i, fFdiv_i, fPow_i, fNeg_i, fEq_i, fEq_s, fEq_b, fNe_i, fNe_s, fNe_b, fIn_s, fNi_s, fIx_t0, fIx_t1, fIx_t2, fIx_l0, fIx_l1, fSl_s, fSl_t, fSl_l, fLen_t, fLen_l, fInt_i, fAbs_i, fMax_i, fMin_i, fTuple_t, fTuple_l, fList_t, fList_l, fRepS_s, seqOf_t, seqOf_l, truD_b, truD_t, truD_l, kTup_t, fIsN_n, fIsi_non_int, fIsi_non_bool, fIsi_non_str, fIsi_non_tuple, fIsi_non_list, fIsi_bl_int, fIsi_bl_bool, fIsi_bl_str, fIsi_bl_tuple, fIsi_bl_list, fIsi_int_int, fIsi_int_bool, fIsi_int_str, fIsi_int_tuple, fIsi_int_list, fIsi_str_int, fIsi_str_bool, fIsi_str_str, fIsi_str_tuple, fIsi_str_list, fIsi_tup_int, fIsi_tup_bool, fIsi_tup_str, fIsi_tup_tuple, fIsi_tup_list, fIsi_lst_int, fIsi_lst_bool, fIsi_lst_str, fIsi_lst_tuple, fIsi_lst_list, isN, fIx_sy0, fIx_sy1, ite_tt, ite_ff]
        rw [List.length_map]
        refine ⟨c, s, F.length, rfl, t12.tp, by omega, by omega, fun j m4 j0 j1 t4 => ?_⟩
        obtain ⟨x, hx, _, hxi⟩ := marks_get j0 j1
        try simp only [aSeq, aSet, aC, aVar, aOp, aTest, aTru, aAnd, aOr, aNot, aAndV, aOrV, aNotV, aIfE, aNil, aCons, aTup, aLst, aLstB, aUn, aCa, aSl, aNo, aPart, aM, aML, aRet, aRetN, aIf, aDo, aNext, aCont, aBrk, aAsg, aCall, aCallX, aMeth, aFld, aSetFld, aFldAug, aAug, aRaise, aMake, aYes, kName, kCons, kNil, kSub, nth, put, wipeD, asT_b, fAdd_i, fAdd_s, fAdd_t, fAdd_l, fSub_i, fLt_i, fLe_i, fGt_i, fGe_i, fMul_i, fMod_i, fFdiv_i, fPow_i, fNeg_i, fEq_i, fEq_s, fEq_b, fNe_i, fNe_s, fNe_b, fIn_s, fNi_s, fIx_t0, fIx_t1, fIx_t2, fIx_l0, fIx_l1, fSl_s, fSl_t, fSl_l, fLen_t, fLen_l, fInt_i, fAbs_i, fMax_i, fMin_i, fTuple_t, fTuple_l, fList_t, fList_l, fRepS_s, seqOf_t, seqOf_l, truD_b, truD_t, truD_l, kTup_t, fIsN_n, fIsi_non_int, fIsi_non_bool, fIsi_non_str, fIsi_non_tuple, fIsi_non_list, fIsi_bl_int, fIsi_bl_bool, fIsi_bl_str, fIsi_bl_tuple, fIsi_bl_list, fIsi_int_int, fIsi_int_bool, fIsi_int_str, fIsi_int_tuple, fIsi_int_list, fIsi_str_int, fIsi_str_bool, fIsi_str_str, fIsi_str_tuple, fIsi_str_list, fIsi_tup_int, fIsi_tup_bool, fIsi_tup_str, fIsi_tup_tuple, fIsi_tup_list, fIsi_lst_int, fIsi_lst_bool, fIsi_lst_str, fIsi_lst_tuple, fIsi_lst_list, isN, fIx_sy0, fIx_sy1, ite_tt, ite_ff, fIx_l hxi]
        refine ⟨by simp, ?_, ?_⟩
        · rw [List.length_take, List.length_map]
          show _ + 1 ≤ _
          omega
        rw [show (k : Int) + 1 = ((k + 1 : Nat) : Int) by omega]
        rw [fSl_row, cutD_n, show [syD x] = [x].map syD from rfl, fAdd_t, cut_map]
        refine ⟨?_, fzE.of (hq _ _ ⟨whole_turn hr.wh hk (hF x hx).2, from_cut hr.fr fun y hy => ?_, ?_⟩ (t12.trans t4))⟩
        · simp only [List.length_append, List.length_take, List.length_drop, List.length_map, List.length_cons, List.length_nil]
          omega
        · rw [List.mem_singleton.mp hy]
          exact hmem x (hF x hx).1
        · simp only [List.length_append, List.length_take, List.length_drop, List.length_cons, List.length_nil]
          omega
end AL
set_option maxHeartbeats 4000000
namespace AL
open PySem L2 Evl
variable {K : PySem.W.Frag}
/-! ### the rows -/
structure RowsOk (ms mo : List Sy) (n : Nat) (rows : List Rw) : Prop where
  ne : rows ≠ []
  few : rows.length ≤ n
  all : ∀ r ∈ rows, Near ms mo 30 r
theorem RowsOk.add {ms mo : List Sy} {n : Nat} {rows : List Rw} {r : Rw} (h : RowsOk ms mo n rows) (hr : Near ms mo 30 r) : RowsOk ms mo (n + 1) (rows ++ [r]) := by
  refine ⟨by simp, by have := h.few; simp; omega, fun x hx => ?_⟩
  rcases List.mem_append.mp hx with z | z
  · exact h.all x z
  · rw [List.mem_singleton.mp z]
    exact hr
theorem rows_get {rows : List Rw} {i : Int} (h0 : 0 ≤ i) (h : i < (rows.length : Int)) : ∃ x, x ∈ rows ∧ atI (rows.map rowD) i = some (rowD x) := by
  have hl : i.toNat < rows.length := by omega
  refine ⟨rows[i.toNat], List.getElem_mem hl, atI_i (i := i.toNat) (by omega) ?_⟩
  rw [List.getElem?_map, List.getElem?_eq_getElem hl]
  rfl
def sp_law_rows : ASp := fun ds m P _ => ∃ (c s : Addr) (ms : List Sy), ds = [tapeD c s, .lst (ms.map syD)] ∧ TapeIn m c s ∧ MarksOk ms ∧ ∀ mo rows m', MoreOk mo → RowsOk ms mo 70 rows → Tp c s m m' → P (.lst (rows.map rowD)) m'
theorem rd_law_rows : ∀ ds m Q W, sp_law_rows ds m Q W → b_law_rows sp_law_more sp_law_pick sp_law_tree sp_law_twin W { nx := fun _ m' => fzE K Q .non m', rt := fzE K Q } (ds.map some ++ List.replicate (N_law_rows.length - ds.length) none) m := by
  rintro ds m Q W ⟨c, s, ms, rfl, tp, hms, hq⟩
  change b_law_rows _ _ _ _ W _ [some (tapeD c s), some (.lst (ms.map syD)), none, none, none, none, none, none, none] m
  unfold b_law_rows
  refine cut_plain ?_
  try simp only [aSeq, aSet, aC, aVar, aOp, aTest, aTru, aAnd, aOr, aNot, aAndV, aOrV, aNotV, aIfE, aNil, aCons, aTup, aLst, aLstB, aUn, aCa, aSl, aNo, aPart, aM, aML, aRet, aRetN, aIf, aDo, aNext, aCont, aBrk, aAsg, aCall, aCallX, aMeth, aFld, aSetFld, aFldAug, aAug, aRaise, aMake, aYes, kName, kCons, kNil, kSub, nth, put, wipeD, asT_b, fAdd_i, fAdd_s, fAdd_t, fAdd_l, fSub_i, fLt_i, fLe_i, fGt_i, fGe_i, fMul_i, fMod_i, fFdiv_i, fPow_i, fNeg_i, fEq_i, fEq_s, fEq_b, fNe_i, fNe_s, fNe_b, fIn_s, fNi_s, fIx_t0, fIx_t1, fIx_t2, fIx_l0, fIx_l1, fSl_s, fSl_t, fSl_l, fLen_t, fLen_l, fInt_i, fAbs_i, fMax_i, fMin_i, fTuple_t, fTuple_l, fList_t, fList_l, fRepS_s, seqOf_t, seqOf_l, truD_b, truD_t, truD_l, kTup_t, fIsN_n, fIsi_non_int, fIsi_non_bool, fIsi_non_str, fIsi_non_tuple, fIsi_non_list, fIsi_bl_int, fIsi_bl_bool, fIsi_bl_str, fIsi_bl_tuple, fIsi_bl_list, fIsi_int_int, fIsi_int_bool, fIsi_int_str, fIsi_int_tuple, fIsi_int_list, fIsi_str_int, fIsi_str_bool, fIsi_str_str, fIsi_str_tuple, fIsi_str_list, fIsi_tup_int, fIsi_tup_bool, fIsi_tup_str, fIsi_tup_tuple, fIsi_tup_list, fIsi_lst_int, fIsi_lst_bool, fIsi_lst_str, fIsi_lst_tuple, fIsi_lst_list, isN, fIx_sy0, fIx_sy1, ite_tt, ite_ff]
  refine ⟨c, s, rfl, tp, fun mo m1 hmo t1 => ?_⟩
  refine cut_plain ?_
  try simp only [aSeq, aSet, aC, aVar, aOp, aTest, aTru, aAnd, aOr, aNot, aAndV, aOrV, aNotV, aIfE, aNil, aCons, aTup, aLst, aLstB, aUn, aCa, aSl, aNo, aPart, aM, aML, aRet, aRetN, aIf, aDo, aNext, aCont, aBrk, aAsg, aCall, aCallX, aMeth, aFld, aSetFld, aFldAug, aAug, aRaise, aMake, aYes, kName, kCons, kNil, kSub, nth, put, wipeD, asT_b, fAdd_i, fAdd_s, fAdd_t, fAdd_l, fSub_i, fLt_i, fLe_i, fGt_i, fGe_i, fMul_i, fMod_i, fFdiv_i, fPow_i, fNeg_i, fEq_i, fEq_s, fEq_b, fNe_i, fNe_s, fNe_b, fIn_s, fNi_s, fIx_t0, fIx_t1, fIx_t2, fIx_l0, fIx_l1, fSl_s, fSl_t, fSl_l, fLen_t, fLen_l, fInt_i, fAbs_i, fMax_i, fMin_i, fTuple_t, fTuple_l, fList_t, fList_l, fRepS_s, seqOf_t, seqOf_l, truD_b, truD_t, truD_l, kTup_t, fIsN_n, fIsi_non_int, fIsi_non_bool, fIsi_non_str, fIsi_non_tuple, fIsi_non_list, fIsi_bl_int, fIsi_bl_bool, fIsi_bl_str, fIsi_bl_tuple, fIsi_bl_list, fIsi_int_int, fIsi_int_bool, fIsi_int_str, fIsi_int_tuple, fIsi_int_list, fIsi_str_int, fIsi_str_bool, fIsi_str_str, fIsi_str_tuple, fIsi_str_list, fIsi_tup_int, fIsi_tup_bool, fIsi_tup_str, fIsi_tup_tuple, fIsi_tup_list, fIsi_lst_int, fIsi_lst_bool, fIsi_lst_str, fIsi_lst_tuple, fIsi_lst_list, isN, fIx_sy0, fIx_sy1, ite_tt, ite_ff]
  refine ⟨c, s, 10, rfl, t1.tp, by decide, by decide, fun q m2 q0 q1 t2 => ?_⟩
  obtain ⟨q, rfl⟩ := nn_of q0
  try simp only [aSeq, aSet, aC, aVar, aOp, aTest, aTru, aAnd, aOr, aNot, aAndV, aOrV, aNotV, aIfE, aNil, aCons, aTup, aLst, aLstB, aUn, aCa, aSl, aNo, aPart, aM, aML, aRet, aRetN, aIf, aDo, aNext, aCont, aBrk, aAsg, aCall, aCallX, aMeth, aFld, aSetFld, aFldAug, aAug, aRaise, aMake, aYes, kName, kCons, kNil, kSub, nth, put, wipeD, asT_b, fAdd_i, fAdd_s, fAdd_t, fAdd_l, fSub_i, fLt_i, fLe_i, fGt_i, fGe_i, fMul_i, fMod_i, fFdiv_i, fPow_i, fNeg_i, fEq_i, fEq_s, fEq_b, fNe_i, fNe_s, fNe_b, fIn_s, fNi_s, fIx_t0, fIx_t1, fIx_t2, fIx_l0, fIx_l1, fSl_s, fSl_t, fSl_l, fLen_t, fLen_l, fInt_i, fAbs_i, fMax_i, fMin_i, fTuple_t, fTuple_l, fList_t, fList_l, fRepS_s, seqOf_t, seqOf_l, truD_b, truD_t, truD_l, kTup_t, fIsN_n, fIsi_non_int, fIsi_non_bool, fIsi_non_str, fIsi_non_tuple, fIsi_non_list, fIsi_bl_int, fIsi_bl_bool, fIsi_bl_str, fIsi_bl_tuple, fIsi_bl_list, fIsi_int_int, fIsi_int_bool, fIsi_int_str, fIsi_int_tuple, fIsi_int_list, fIsi_str_int, fIsi_str_bool, fIsi_str_str, fIsi_str_tuple, fIsi_str_list, fIsi_tup_int, fIsi_tup_bool, fIsi_tup_str, fIsi_tup_tuple, fIsi_tup_list, fIsi_lst_int, fIsi_lst_bool, fIsi_lst_str, fIsi_lst_tuple, fIsi_lst_list, isN, fIx_sy0, fIx_sy1, ite_tt, ite_ff]
  refine ⟨c, s, ms, 1 + q, by rw [int_eq (show (1 : Int) + (q : Int) = ((1 + q : Nat) : Int) by omega)], t2.tp, hms, by omega, by omega, fun tall m3 wt lt gt t3 => ?_⟩
  have t123 := (t1.trans t2).trans t3
  have ht : Near ms mo 30 tall := ⟨wt, fun x hx => .inl (gt x hx), by omega⟩
  refine cut_plain ?_
  try simp only [aSeq, aSet, aC, aVar, aOp, aTest, aTru, aAnd, aOr, aNot, aAndV, aOrV, aNotV, aIfE, aNil, aCons, aTup, aLst, aLstB, aUn, aCa, aSl, aNo, aPart, aM, aML, aRet, aRetN, aIf, aDo, aNext, aCont, aBrk, aAsg, aCall, aCallX, aMeth, aFld, aSetFld, aFldAug, aAug, aRaise, aMake, aYes, kName, kCons, kNil, kSub, nth, put, wipeD, asT_b, fAdd_i, fAdd_s, fAdd_t, fAdd_l, fSub_i, fLt_i, fLe_i, fGt_i, fGe_i, fMul_i, fMod_i, fFdiv_i, fPow_i, fNeg_i, fEq_i, fEq_s, fEq_b, fNe_i, fNe_s, fNe_b, fIn_s, fNi_s, fIx_t0, fIx_t1, fIx_t2, fIx_l0, fIx_l1, fSl_s, fSl_t, fSl_l, fLen_t, fLen_l, fInt_i, fAbs_i, fMax_i, fMin_i, fTuple_t, fTuple_l, fList_t, fList_l, fRepS_s, seqOf_t, seqOf_l, truD_b, truD_t, truD_l, kTup_t, fIsN_n, fIsi_non_int, fIsi_non_bool, fIsi_non_str, fIsi_non_tuple, fIsi_non_list, fIsi_bl_int, fIsi_bl_bool, fIsi_bl_str, fIsi_bl_tuple, fIsi_bl_list, fIsi_int_int, fIsi_int_bool, fIsi_int_str, fIsi_int_tuple, fIsi_int_list, fIsi_str_int, fIsi_str_bool, fIsi_str_str, fIsi_str_tuple, fIsi_str_list, fIsi_tup_int, fIsi_tup_bool, fIsi_tup_str, fIsi_tup_tuple, fIsi_tup_list, fIsi_lst_int, fIsi_lst_bool, fIsi_lst_str, fIsi_lst_tuple, fIsi_lst_list, isN, fIx_sy0, fIx_sy1, ite_tt, ite_ff]
  refine ⟨by simp, fun p hp => ?_⟩
  have fr0 := (Fr.of t123).add (o := .lst [rowD tall]) hp
  have hpm : m p = none := (Fr.of t123).new hp (by simp)
  have hap := t123.tp.apart hp
  obtain ⟨wa, wb, wc, wd, em⟩ := hmo.ex
  have gm : ∀ (i : Nat) (x : Sy), mo[i]? = some x → atI (mo.map syD) (i : Int) = some (syD x) := fun i x h => atI_nn (row_get h)
  have m1' : atI (mo.map syD) 1 = some (syD ⟨wb, 1⟩) := gm 1 _ (by rw [em]; rfl)
  have m2' : atI (mo.map syD) 2 = some (syD ⟨wc, 1⟩) := gm 2 _ (by rw [em]; rfl)
  have m3' : atI (mo.map syD) 3 = some (syD ⟨wd, 2⟩) := gm 3 _ (by rw [em]; rfl)
  have m4' : atI (mo.map syD) 4 = some (syD ⟨wb, 0⟩) := gm 4 _ (by rw [em]; rfl)
  have hm2 := hms.two
  have k0 : ms[0]? = some ms[0] := List.getElem?_eq_getElem (by omega)
  have k1 : ms[1]? = some ms[1] := List.getElem?_eq_getElem (by omega)
  have a0 : atI (ms.map syD) 0 = some (syD ms[0]) := atI_nn (i := 0) (row_get k0)
  have a1 : atI (ms.map syD) 1 = some (syD ms[1]) := atI_nn (i := 1) (row_get k1)
  have n0 : ms[0].n = 0 := hms.leaf 0 _ (by decide) k0
  have n1 : ms[1].n = 0 := hms.leaf 1 _ (by decide) k1
  have near4 : ∀ x y z u : Sy, (x ∈ ms ∨ x ∈ mo) → (y ∈ ms ∨ y ∈ mo) → (z ∈ ms ∨ z ∈ mo) → (u ∈ ms ∨ u ∈ mo) → whole [x, y, z, u] → Near ms mo 30 [x, y, z, u] := fun x y z u h1 h2 h3 h4 hw => ⟨hw, fun v hv => by
    simp only [List.mem_cons, List.not_mem_nil, or_false] at hv
    rcases hv with rfl | rfl | rfl | rfl <;> assumption, by simp⟩
  refine ⟨fun g m4 => ∃ rows, g = [some (tapeD c s), some (.lst (ms.map syD)), some (.lst (mo.map syD)), some (rowD tall), some (.box p), none, none, none, none] ∧ m4 p = some (.lst (rows.map rowD)) ∧ Fr c s [p] m m4 ∧ RowsOk ms mo 3 rows, ?_, ?_⟩
  · try simp only [aSeq, aSet, aC, aVar, aOp, aTest, aTru, aAnd, aOr, aNot, aAndV, aOrV, aNotV, aIfE, aNil, aCons, aTup, aLst, aLstB, aUn, aCa, aSl, aNo, aPart, aM, aML, aRet, aRetN, aIf, aDo, aNext, aCont, aBrk, aAsg, aCall, aCallX, aMeth, aFld, aSetFld, aFldAug, aAug, aRaise, aMake, aYes, kName, kCons, kNil, kSub, nth, put, wipeD, asT_b, fAdd_i, fAdd_s, fAdd_t, fAdd_l, fSub_i, fLt_i, fLe_i, fGt_i, fGe_i, fMul_i, fMod_i, fFdiv_i, fPow_i, fNeg_i, fEq_i, fEq_s, fEq_b, fNe_i, fNe_s, fNe_b, fIn_s, fNi_s, fIx_t0, fIx_t1, fIx_t2, fIx_l0, fIx_l1, fSl_s, fSl_t, fSl_l, fLen_t, fLen_l, fInt_i, fAbs_i, fMax_i, fMin_i, fTuple_t, fTuple_l, fList_t, fList_l, fRepS_s, seqOf_t, seqOf_l, truD_b, truD_t, truD_l, kTup_t, fIsN_n, fIsi_non_int, fIsi_non_bool, fIsi_non_str, fIsi_non_tuple, fIsi_non_list, fIsi_bl_int, fIsi_bl_bool, fIsi_bl_str, fIsi_bl_tuple, fIsi_bl_list, fIsi_int_int, fIsi_int_bool, fIsi_int_str, fIsi_int_tuple, fIsi_int_list, fIsi_str_int, fIsi_str_bool, fIsi_str_str, fIsi_str_tuple, fIsi_str_list, fIsi_tup_int, fIsi_tup_bool, fIsi_tup_str, fIsi_tup_tuple, fIsi_tup_list, fIsi_lst_int, fIsi_lst_bool, fIsi_lst_str, fIsi_lst_tuple, fIsi_lst_list, isN, fIx_sy0, fIx_sy1, ite_tt, ite_ff]
    refine ⟨c, s, 3, rfl, fr0.tp, by decide, by decide, fun q4 m4 q40 q41 t4 => ?_⟩
    have fr4 := fr0.go t4
    have hp4 : m4 p = some (.lst ([tall].map rowD)) := t4.own mset_same hap
    have ok1 : RowsOk ms mo 1 [tall] := ⟨by simp, by simp, fun x hx => by rw [List.mem_singleton.mp hx]; exact ht⟩
    try simp only [aSeq, aSet, aC, aVar, aOp, aTest, aTru, aAnd, aOr, aNot, aAndV, aOrV, aNotV, aIfE, aNil, aCons, aTup, aLst, aLstB, aUn, aCa, aSl, aNo, aPart, aM, aML, aRet, aRetN, aIf, aDo, aNext, aCont, aBrk, aAsg, aCall, aCallX, aMeth, aFld, aSetFld, aFldAug, aAug, aRaise, aMake, aYes, kName, kCons, kNil, kSub, nth, put, wipeD, asT_b, fAdd_i, fAdd_s, fAdd_t, fAdd_l, fSub_i, fLt_i, fLe_i, fGt_i, fGe_i, fMul_i, fMod_i, fFdiv_i, fPow_i, fNeg_i, fEq_i, fEq_s, fEq_b, fNe_i, fNe_s, fNe_b, fIn_s, fNi_s, fIx_t0, fIx_t1, fIx_t2, fIx_l0, fIx_l1, fSl_s, fSl_t, fSl_l, fLen_t, fLen_l, fInt_i, fAbs_i, fMax_i, fMin_i, fTuple_t, fTuple_l, fList_t, fList_l, fRepS_s, seqOf_t, seqOf_l, truD_b, truD_t, truD_l, kTup_t, fIsN_n, fIsi_non_int, fIsi_non_bool, fIsi_non_str, fIsi_non_tuple, fIsi_non_list, fIsi_bl_int, fIsi_bl_bool, fIsi_bl_str, fIsi_bl_tuple, fIsi_bl_list, fIsi_int_int, fIsi_int_bool, fIsi_int_str, fIsi_int_tuple, fIsi_int_list, fIsi_str_int, fIsi_str_bool, fIsi_str_str, fIsi_str_tuple, fIsi_str_list, fIsi_tup_int, fIsi_tup_bool, fIsi_tup_str, fIsi_tup_tuple, fIsi_tup_list, fIsi_lst_int, fIsi_lst_bool, fIsi_lst_str, fIsi_lst_tuple, fIsi_lst_list, isN, fIx_sy0, fIx_sy1, ite_tt, ite_ff]
    by_cases hc : (0 : Int) < q4
    · rw [if_pos (decide_eq_true hc)]
      refine cut_plain ?_
      try simp only [aSeq, aSet, aC, aVar, aOp, aTest, aTru, aAnd, aOr, aNot, aAndV, aOrV, aNotV, aIfE, aNil, aCons, aTup, aLst, aLstB, aUn, aCa, aSl, aNo, aPart, aM, aML, aRet, aRetN, aIf, aDo, aNext, aCont, aBrk, aAsg, aCall, aCallX, aMeth, aFld, aSetFld, aFldAug, aAug, aRaise, aMake, aYes, kName, kCons, kNil, kSub, nth, put, wipeD, asT_b, fAdd_i, fAdd_s, fAdd_t, fAdd_l, fSub_i, fLt_i, fLe_i, fGt_i, fGe_i, fMul_i, fMod_i, fFdiv_i, fPow_i, fNeg_i, fEq_i, fEq_s, fEq_b, fNe_i, fNe_s, fNe_b, fIn_s, fNi_s, fIx_t0, fIx_t1, fIx_t2, fIx_l0, fIx_l1, fSl_s, fSl_t, fSl_l, fLen_t, fLen_l, fInt_i, fAbs_i, fMax_i, fMin_i, fTuple_t, fTuple_l, fList_t, fList_l, fRepS_s, seqOf_t, seqOf_l, truD_b, truD_t, truD_l, kTup_t, fIsN_n, fIsi_non_int, fIsi_non_bool, fIsi_non_str, fIsi_non_tuple, fIsi_non_list, fIsi_bl_int, fIsi_bl_bool, fIsi_bl_str, fIsi_bl_tuple, fIsi_bl_list, fIsi_int_int, fIsi_int_bool, fIsi_int_str, fIsi_int_tuple, fIsi_int_list, fIsi_str_int, fIsi_str_bool, fIsi_str_str, fIsi_str_tuple, fIsi_str_list, fIsi_tup_int, fIsi_tup_bool, fIsi_tup_str, fIsi_tup_tuple, fIsi_tup_list, fIsi_lst_int, fIsi_lst_bool, fIsi_lst_str, fIsi_lst_tuple, fIsi_lst_list, isN, fIx_sy0, fIx_sy1, ite_tt, ite_ff, isL_b hp4, fIx_l m3', fIx_l m4', fIx_l m2', fIx_l a0]
      have ok2 := ok1.add (near4 ⟨wd, 2⟩ ⟨wb, 0⟩ ⟨wc, 1⟩ ms[0] (.inr (by rw [em]; simp)) (.inr (by rw [em]; simp)) (.inr (by rw [em]; simp)) (.inl (List.getElem_mem _)) (by simp [whole, run, n0]))
      rw [fApp_b hp4]
      refine ⟨trivial, by simp, by simp, ?_⟩
      have e5 : ∀ x y z u : Sy, D.tup [syD x, syD y, syD z, syD u] = rowD [x, y, z, u] := fun _ _ _ _ => rfl
      have e6 : ([tall].map rowD) ++ [D.tup [syD ⟨wd, 2⟩, syD ⟨wb, 0⟩, syD ⟨wc, 1⟩, syD ms[0]]] = ([tall] ++ [[⟨wd, 2⟩, ⟨wb, 0⟩, ⟨wc, 1⟩, ms[0]]]).map rowD := rfl
      rw [e6]
      have fr5 := fr4.set (p := p) (o := .lst (([tall] ++ [[⟨wd, 2⟩, ⟨wb, 0⟩, ⟨wc, 1⟩, ms[0]]]).map rowD)) (by simp)
      generalize [tall] ++ [[(⟨wd, 2⟩ : Sy), ⟨wb, 0⟩, ⟨wc, 1⟩, ms[0]]] = rows2 at *
      try simp only [aSeq, aSet, aC, aVar, aOp, aTest, aTru, aAnd, aOr, aNot, aAndV, aOrV, aNotV, aIfE, aNil, aCons, aTup, aLst, aLstB, aUn, aCa, aSl, aNo, aPart, aM, aML, aRet, aRetN, aIf, aDo, aNext, aCont, aBrk, aAsg, aCall, aCallX, aMeth, aFld, aSetFld, aFldAug, aAug, aRaise, aMake, aYes, kName, kCons, kNil, kSub, nth, put, wipeD, asT_b, fAdd_i, fAdd_s, fAdd_t, fAdd_l, fSub_i, fLt_i, fLe_i, fGt_i, fGe_i, fMul_i, fMod_i, fFdiv_i, fPow_i, fNeg_i, fEq_i, fEq_s, fEq_b, fNe_i, fNe_s, fNe_b, fIn_s, fNi_s, fIx_t0, fIx_t1, fIx_t2, fIx_l0, fIx_l1, fSl_s, fSl_t, fSl_l, fLen_t, fLen_l, fInt_i, fAbs_i, fMax_i, fMin_i, fTuple_t, fTuple_l, fList_t, fList_l, fRepS_s, seqOf_t, seqOf_l, truD_b, truD_t, truD_l, kTup_t, fIsN_n, fIsi_non_int, fIsi_non_bool, fIsi_non_str, fIsi_non_tuple, fIsi_non_list, fIsi_bl_int, fIsi_bl_bool, fIsi_bl_str, fIsi_bl_tuple, fIsi_bl_list, fIsi_int_int, fIsi_int_bool, fIsi_int_str, fIsi_int_tuple, fIsi_int_list, fIsi_str_int, fIsi_str_bool, fIsi_str_str, fIsi_str_tuple, fIsi_str_list, fIsi_tup_int, fIsi_tup_bool, fIsi_tup_str, fIsi_tup_tuple, fIsi_tup_list, fIsi_lst_int, fIsi_lst_bool, fIsi_lst_str, fIsi_lst_tuple, fIsi_lst_list, isN, fIx_sy0, fIx_sy1, ite_tt, ite_ff, isL_b mset_same, fIx_l m1', true_and]
      refine ⟨c, s, 2, rfl, fr5.tp, by decide, by decide, fun q5 m5 q50 q51 t5 => ?_⟩
      obtain ⟨j, rfl⟩ := nn_of q50
      have hj : j < ms.length := by omega
      have kj : ms[j]? = some ms[j] := List.getElem?_eq_getElem hj
      have aj : atI (ms.map syD) (j : Int) = some (syD ms[j]) := atI_nn (row_get kj)
      have nj : ms[j].n = 0 := hms.leaf j _ (by omega) kj
      have hp5 := t5.own mset_same hap
      have ok3 := ok2.add (near4 ⟨wd, 2⟩ ⟨wb, 1⟩ ms[j] ms[1] (.inr (by rw [em]; simp)) (.inr (by rw [em]; simp)) (.inl (List.getElem_mem _)) (.inl (List.getElem_mem _)) (by simp [whole, run, n1, nj]))
      try simp only [aSeq, aSet, aC, aVar, aOp, aTest, aTru, aAnd, aOr, aNot, aAndV, aOrV, aNotV, aIfE, aNil, aCons, aTup, aLst, aLstB, aUn, aCa, aSl, aNo, aPart, aM, aML, aRet, aRetN, aIf, aDo, aNext, aCont, aBrk, aAsg, aCall, aCallX, aMeth, aFld, aSetFld, aFldAug, aAug, aRaise, aMake, aYes, kName, kCons, kNil, kSub, nth, put, wipeD, asT_b, fAdd_i, fAdd_s, fAdd_t, fAdd_l, fSub_i, fLt_i, fLe_i, fGt_i, fGe_i, fMul_i, fMod_i, fFdiv_i, fPow_i, fNeg_i, fEq_i, fEq_s, fEq_b, fNe_i, fNe_s, fNe_b, fIn_s, fNi_s, fIx_t0, fIx_t1, fIx_t2, fIx_l0, fIx_l1, fSl_s, fSl_t, fSl_l, fLen_t, fLen_l, fInt_i, fAbs_i, fMax_i, fMin_i, fTuple_t, fTuple_l, fList_t, fList_l, fRepS_s, seqOf_t, seqOf_l, truD_b, truD_t, truD_l, kTup_t, fIsN_n, fIsi_non_int, fIsi_non_bool, fIsi_non_str, fIsi_non_tuple, fIsi_non_list, fIsi_bl_int, fIsi_bl_bool, fIsi_bl_str, fIsi_bl_tuple, fIsi_bl_list, fIsi_int_int, fIsi_int_bool, fIsi_int_str, fIsi_int_tuple, fIsi_int_list, fIsi_str_int, fIsi_str_bool, fIsi_str_str, fIsi_str_tuple, fIsi_str_list, fIsi_tup_int, fIsi_tup_bool, fIsi_tup_str, fIsi_tup_tuple, fIsi_tup_list, fIsi_lst_int, fIsi_lst_bool, fIsi_lst_str, fIsi_lst_tuple, fIsi_lst_list, isN, fIx_sy0, fIx_sy1, ite_tt, ite_ff, fIx_l aj, fIx_l a1, fApp_b hp5]
      have hf := ok2.few
      refine ⟨by simp, by rw [List.length_map]; omega, _, ?_, (fr5.go t5).set (by simp), ok3⟩
      rw [mset_same, List.map_append]
      rfl
    · rw [if_neg (by simpa using hc)]
      exact ⟨[tall], by trivial, hp4, fr4, ok1.ne, by simp, ok1.all⟩
  · rintro g m4 ⟨rows3, rfl, hp4, fr4, ok3⟩
    refine cut_plain ?_
    try simp only [aSeq, aSet, aC, aVar, aOp, aTest, aTru, aAnd, aOr, aNot, aAndV, aOrV, aNotV, aIfE, aNil, aCons, aTup, aLst, aLstB, aUn, aCa, aSl, aNo, aPart, aM, aML, aRet, aRetN, aIf, aDo, aNext, aCont, aBrk, aAsg, aCall, aCallX, aMeth, aFld, aSetFld, aFldAug, aAug, aRaise, aMake, aYes, kName, kCons, kNil, kSub, nth, put, wipeD, asT_b, fAdd_i, fAdd_s, fAdd_t, fAdd_l, fSub_i, fLt_i, fLe_i, fGt_i, fGe_i, fMul_i, fMod_i, fFdiv_i, fPow_i, fNeg_i, fEq_i, fEq_s, fEq_b, fNe_i, fNe_s, fNe_b, fIn_s, fNi_s, fIx_t0, fIx_t1, fIx_t2, fIx_l0, fIx_l1, fSl_s, fSl_t, fSl_l, fLen_t, fLen_l, fInt_i, fAbs_i, fMax_i, fMin_i, fTuple_t, fTuple_l, fList_t, fList_l, fRepS_s, seqOf_t, seqOf_l, truD_b, truD_t, truD_l, kTup_t, fIsN_n, fIsi_non_int, fIsi_non_bool, fIsi_non_str, fIsi_non_tuple, fIsi_non_list, fIsi_bl_int, fIsi_bl_bool, fIsi_bl_str, fIsi_bl_tuple, fIsi_bl_list, fIsi_int_int, fIsi_int_bool, fIsi_int_str, fIsi_int_tuple, fIsi_int_list, fIsi_str_int, fIsi_str_bool, fIsi_str_str, fIsi_str_tuple, fIsi_str_list, fIsi_tup_int, fIsi_tup_bool, fIsi_tup_str, fIsi_tup_tuple, fIsi_tup_list, fIsi_lst_int, fIsi_lst_bool, fIsi_lst_str, fIsi_lst_tuple, fIsi_lst_list, isN, fIx_sy0, fIx_sy1, ite_tt, ite_ff]
    refine ⟨c, s, 6, rfl, fr4.tp, by decide, by decide, fun q5 m5 q50 q51 t5 => ?_⟩
    have fr5 := fr4.go t5
    have hp5 := t5.own hp4 hap
    refine ⟨fun g m6 => ∃ n : Int, 3 ≤ n ∧ n ≤ 60 ∧ g = [some (tapeD c s), some (.lst (ms.map syD)), some (.lst (mo.map syD)), some (rowD tall), some (.box p), some (.int n), none, none, none] ∧ m6 p = some (.lst (rows3.map rowD)) ∧ Fr c s [p] m m6, ?_, ?_⟩
    · try simp only [aSeq, aSet, aC, aVar, aOp, aTest, aTru, aAnd, aOr, aNot, aAndV, aOrV, aNotV, aIfE, aNil, aCons, aTup, aLst, aLstB, aUn, aCa, aSl, aNo, aPart, aM, aML, aRet, aRetN, aIf, aDo, aNext, aCont, aBrk, aAsg, aCall, aCallX, aMeth, aFld, aSetFld, aFldAug, aAug, aRaise, aMake, aYes, kName, kCons, kNil, kSub, nth, put, wipeD, asT_b, fAdd_i, fAdd_s, fAdd_t, fAdd_l, fSub_i, fLt_i, fLe_i, fGt_i, fGe_i, fMul_i, fMod_i, fFdiv_i, fPow_i, fNeg_i, fEq_i, fEq_s, fEq_b, fNe_i, fNe_s, fNe_b, fIn_s, fNi_s, fIx_t0, fIx_t1, fIx_t2, fIx_l0, fIx_l1, fSl_s, fSl_t, fSl_l, fLen_t, fLen_l, fInt_i, fAbs_i, fMax_i, fMin_i, fTuple_t, fTuple_l, fList_t, fList_l, fRepS_s, seqOf_t, seqOf_l, truD_b, truD_t, truD_l, kTup_t, fIsN_n, fIsi_non_int, fIsi_non_bool, fIsi_non_str, fIsi_non_tuple, fIsi_non_list, fIsi_bl_int, fIsi_bl_bool, fIsi_bl_str, fIsi_bl_tuple, fIsi_bl_list, fIsi_int_int, fIsi_int_bool, fIsi_int_str, fIsi_int_tuple, fIsi_int_list, fIsi_str_int, fIsi_str_bool, fIsi_str_str, fIsi_str_tuple, fIsi_str_list, fIsi_tup_int, fIsi_tup_bool, fIsi_tup_str, fIsi_tup_tuple, fIsi_tup_list, fIsi_lst_int, fIsi_lst_bool, fIsi_lst_str, fIsi_lst_tuple, fIsi_lst_list, isN, fIx_sy0, fIx_sy1, ite_tt, ite_ff]
      refine ⟨c, s, 10, rfl, fr5.tp, by decide, by decide, fun q6 m6 q60 q61 t6 => ?_⟩
      have fr6 := fr5.go t6
      have hp6 := t6.own hp5 hap
      try simp only [aSeq, aSet, aC, aVar, aOp, aTest, aTru, aAnd, aOr, aNot, aAndV, aOrV, aNotV, aIfE, aNil, aCons, aTup, aLst, aLstB, aUn, aCa, aSl, aNo, aPart, aM, aML, aRet, aRetN, aIf, aDo, aNext, aCont, aBrk, aAsg, aCall, aCallX, aMeth, aFld, aSetFld, aFldAug, aAug, aRaise, aMake, aYes, kName, kCons, kNil, kSub, nth, put, wipeD, asT_b, fAdd_i, fAdd_s, fAdd_t, fAdd_l, fSub_i, fLt_i, fLe_i, fGt_i, fGe_i, fMul_i, fMod_i, fFdiv_i, fPow_i, fNeg_i, fEq_i, fEq_s, fEq_b, fNe_i, fNe_s, fNe_b, fIn_s, fNi_s, fIx_t0, fIx_t1, fIx_t2, fIx_l0, fIx_l1, fSl_s, fSl_t, fSl_l, fLen_t, fLen_l, fInt_i, fAbs_i, fMax_i, fMin_i, fTuple_t, fTuple_l, fList_t, fList_l, fRepS_s, seqOf_t, seqOf_l, truD_b, truD_t, truD_l, kTup_t, fIsN_n, fIsi_non_int, fIsi_non_bool, fIsi_non_str, fIsi_non_tuple, fIsi_non_list, fIsi_bl_int, fIsi_bl_bool, fIsi_bl_str, fIsi_bl_tuple, fIsi_bl_list, fIsi_int_int, fIsi_int_bool, fIsi_int_str, fIsi_int_tuple, fIsi_int_list, fIsi_str_int, fIsi_str_bool, fIsi_str_str, fIsi_str_tuple, fIsi_str_list, fIsi_tup_int, fIsi_tup_bool, fIsi_tup_str, fIsi_tup_tuple, fIsi_tup_list, fIsi_lst_int, fIsi_lst_bool, fIsi_lst_str, fIsi_lst_tuple, fIsi_lst_list, isN, fIx_sy0, fIx_sy1, ite_tt, ite_ff]
      by_cases h4 : q6 = 4
      · rw [if_pos (decide_eq_true h4)]
        try simp only [aSeq, aSet, aC, aVar, aOp, aTest, aTru, aAnd, aOr, aNot, aAndV, aOrV, aNotV, aIfE, aNil, aCons, aTup, aLst, aLstB, aUn, aCa, aSl, aNo, aPart, aM, aML, aRet, aRetN, aIf, aDo, aNext, aCont, aBrk, aAsg, aCall, aCallX, aMeth, aFld, aSetFld, aFldAug, aAug, aRaise, aMake, aYes, kName, kCons, kNil, kSub, nth, put, wipeD, asT_b, fAdd_i, fAdd_s, fAdd_t, fAdd_l, fSub_i, fLt_i, fLe_i, fGt_i, fGe_i, fMul_i, fMod_i, fFdiv_i, fPow_i, fNeg_i, fEq_i, fEq_s, fEq_b, fNe_i, fNe_s, fNe_b, fIn_s, fNi_s, fIx_t0, fIx_t1, fIx_t2, fIx_l0, fIx_l1, fSl_s, fSl_t, fSl_l, fLen_t, fLen_l, fInt_i, fAbs_i, fMax_i, fMin_i, fTuple_t, fTuple_l, fList_t, fList_l, fRepS_s, seqOf_t, seqOf_l, truD_b, truD_t, truD_l, kTup_t, fIsN_n, fIsi_non_int, fIsi_non_bool, fIsi_non_str, fIsi_non_tuple, fIsi_non_list, fIsi_bl_int, fIsi_bl_bool, fIsi_bl_str, fIsi_bl_tuple, fIsi_bl_list, fIsi_int_int, fIsi_int_bool, fIsi_int_str, fIsi_int_tuple, fIsi_int_list, fIsi_str_int, fIsi_str_bool, fIsi_str_str, fIsi_str_tuple, fIsi_str_list, fIsi_tup_int, fIsi_tup_bool, fIsi_tup_str, fIsi_tup_tuple, fIsi_tup_list, fIsi_lst_int, fIsi_lst_bool, fIsi_lst_str, fIsi_lst_tuple, fIsi_lst_list, isN, fIx_sy0, fIx_sy1, ite_tt, ite_ff]
        refine ⟨c, s, 31, rfl, fr6.tp, by decide, by decide, fun q7 m7 q70 q71 t7 => ?_⟩
        exact ⟨30 + q7, by omega, by omega, by trivial, t7.own hp6 hap, fr6.go t7⟩
      · rw [if_neg (by simpa using h4)]
        exact ⟨3 + q5, by omega, by omega, by trivial, hp6, fr6⟩
    · rintro g m6 ⟨n, n3, n60, rfl, hp6, fr6⟩
      have hf := ok3.few
      refine cut_plain ?_
      try simp only [aSeq, aSet, aC, aVar, aOp, aTest, aTru, aAnd, aOr, aNot, aAndV, aOrV, aNotV, aIfE, aNil, aCons, aTup, aLst, aLstB, aUn, aCa, aSl, aNo, aPart, aM, aML, aRet, aRetN, aIf, aDo, aNext, aCont, aBrk, aAsg, aCall, aCallX, aMeth, aFld, aSetFld, aFldAug, aAug, aRaise, aMake, aYes, kName, kCons, kNil, kSub, nth, put, wipeD, asT_b, fAdd_i, fAdd_s, fAdd_t, fAdd_l, fSub_i, fLt_i, fLe_i, fGt_i, fGe_i, fMul_i, fMod_i, fFdiv_i, fPow_i, fNeg_i, fEq_i, fEq_s, fEq_b, fNe_i, fNe_s, fNe_b, fIn_s, fNi_s, fIx_t0, fIx_t1, fIx_t2, fIx_l0, fIx_l1, fSl_s, fSl_t, fSl_l, fLen_t, fLen_l, fInt_i, fAbs_i, fMax_i, fMin_i, fTuple_t, fTuple_l, fList_t, fList_l, fRepS_s, seqOf_t, seqOf_l, truD_b, truD_t, truD_l, kTup_t, fIsN_n, fIsi_non_int, fIsi_non_bool, fIsi_non_str, fIsi_non_tuple, fIsi_non_list, fIsi_bl_int, fIsi_bl_bool, fIsi_bl_str, fIsi_bl_tuple, fIsi_bl_list, fIsi_int_int, fIsi_int_bool, fIsi_int_str, fIsi_int_tuple, fIsi_int_list, fIsi_str_int, fIsi_str_bool, fIsi_str_str, fIsi_str_tuple, fIsi_str_list, fIsi_tup_int, fIsi_tup_bool, fIsi_tup_str, fIsi_tup_tuple, fIsi_tup_list, fIsi_lst_int, fIsi_lst_bool, fIsi_lst_str, fIsi_lst_tuple, fIsi_lst_list, isN, fIx_sy0, fIx_sy1, ite_tt, ite_ff, aForR, fLen_b hp6]
      rw [List.length_map]
      refine ⟨0, n - rows3.length, rfl, fun _ => rfl, by omega, fun i g m' => ∃ rows x y z, g = [some (tapeD c s), some (.lst (ms.map syD)), some (.lst (mo.map syD)), some (rowD tall), some (.box p), some (.int n), x, y, z] ∧ m' p = some (.lst (rows.map rowD)) ∧ Fr c s [p] m m' ∧ RowsOk ms mo (3 + i) rows, ⟨rows3, none, none, none, rfl, hp6, fr6, ok3⟩, ?_, ?_⟩
      · rintro i g m7 hi ⟨rows, x, y, z, rfl, hp7, fr7, ok7⟩
        have hi : i < 60 := by omega
        have hfew := ok7.few
        have hpos : 0 < rows.length := List.length_pos_iff.mpr ok7.ne
        have fin : ∀ (t : Rw) (m8 : Mu) (a b e : Option D), Near ms mo 30 t → Fr c s [p] m m8 → ∃ rows' x y z, [some (tapeD c s), some (.lst (ms.map syD)), some (.lst (mo.map syD)), some (rowD tall), some (.box p), some (.int n), a, b, e] = [some (tapeD c s), some (.lst (ms.map syD)), some (.lst (mo.map syD)), some (rowD tall), some (.box p), some (.int n), x, y, z] ∧ (mset m8 p (.lst (rows.map rowD ++ [rowD t]))) p = some (.lst (rows'.map rowD)) ∧ Fr c s [p] m (mset m8 p (.lst (rows.map rowD ++ [rowD t]))) ∧ RowsOk ms mo (3 + (i + 1)) rows' := fun t m8 a b e ht8 fr8 => by
          refine ⟨rows ++ [t], a, b, e, rfl, ?_, fr8.set (by simp), ok7.add ht8⟩
          rw [mset_same, List.map_append]
          rfl
        try simp only [aSeq, aSet, aC, aVar, aOp, aTest, aTru, aAnd, aOr, aNot, aAndV, aOrV, aNotV, aIfE, aNil, aCons, aTup, aLst, aLstB, aUn, aCa, aSl, aNo, aPart, aM, aML, aRet, aRetN, aIf, aDo, aNext, aCont, aBrk, aAsg, aCall, aCallX, aMeth, aFld, aSetFld, aFldAug, aAug, aRaise, aMake, aYes, kName, kCons, kNil, kSub, nth, put, wipeD, asT_b, fAdd_i, fAdd_s, fAdd_t, fAdd_l, fSub_i, fLt_i, fLe_i, fGt_i, fGe_i, fMul_i, fMod_i, fFdiv_i, fPow_i, fNeg_i, fEq_i, fEq_s, fEq_b, fNe_i, fNe_s, fNe_b, fIn_s, fNi_s, fIx_t0, fIx_t1, fIx_t2, fIx_l0, fIx_l1, fSl_s, fSl_t, fSl_l, fLen_t, fLen_l, fInt_i, fAbs_i, fMax_i, fMin_i, fTuple_t, fTuple_l, fList_t, fList_l, fRepS_s, seqOf_t, seqOf_l, truD_b, truD_t, truD_l, kTup_t, fIsN_n, fIsi_non_int, fIsi_non_bool, fIsi_non_str, fIsi_non_tuple, fIsi_non_list, fIsi_bl_int, fIsi_bl_bool, fIsi_bl_str, fIsi_bl_tuple, fIsi_bl_list, fIsi_int_int, fIsi_int_bool, fIsi_int_str, fIsi_int_tuple, fIsi_int_list, fIsi_str_int, fIsi_str_bool, fIsi_str_str, fIsi_str_tuple, fIsi_str_list, fIsi_tup_int, fIsi_tup_bool, fIsi_tup_str, fIsi_tup_tuple, fIsi_tup_list, fIsi_lst_int, fIsi_lst_bool, fIsi_lst_str, fIsi_lst_tuple, fIsi_lst_list, isN, fIx_sy0, fIx_sy1, ite_tt, ite_ff]
        refine cut_plain ?_
        try simp only [aSeq, aSet, aC, aVar, aOp, aTest, aTru, aAnd, aOr, aNot, aAndV, aOrV, aNotV, aIfE, aNil, aCons, aTup, aLst, aLstB, aUn, aCa, aSl, aNo, aPart, aM, aML, aRet, aRetN, aIf, aDo, aNext, aCont, aBrk, aAsg, aCall, aCallX, aMeth, aFld, aSetFld, aFldAug, aAug, aRaise, aMake, aYes, kName, kCons, kNil, kSub, nth, put, wipeD, asT_b, fAdd_i, fAdd_s, fAdd_t, fAdd_l, fSub_i, fLt_i, fLe_i, fGt_i, fGe_i, fMul_i, fMod_i, fFdiv_i, fPow_i, fNeg_i, fEq_i, fEq_s, fEq_b, fNe_i, fNe_s, fNe_b, fIn_s, fNi_s, fIx_t0, fIx_t1, fIx_t2, fIx_l0, fIx_l1, fSl_s, fSl_t, fSl_l, fLen_t, fLen_l, fInt_i, fAbs_i, fMax_i, fMin_i, fTuple_t, fTuple_l, fList_t, fList_l, fRepS_s, seqOf_t, seqOf_l, truD_b, truD_t, truD_l, kTup_t, fIsN_n, fIsi_non_int, fIsi_non_bool, fIsi_non_str, fIsi_non_tuple, fIsi_non_list, fIsi_bl_int, fIsi_bl_bool, fIsi_bl_str, fIsi_bl_tuple, fIsi_bl_list, fIsi_int_int, fIsi_int_bool, fIsi_int_str, fIsi_int_tuple, fIsi_int_list, fIsi_str_int, fIsi_str_bool, fIsi_str_str, fIsi_str_tuple, fIsi_str_list, fIsi_tup_int, fIsi_tup_bool, fIsi_tup_str, fIsi_tup_tuple, fIsi_tup_list, fIsi_lst_int, fIsi_lst_bool, fIsi_lst_str, fIsi_lst_tuple, fIsi_lst_list, isN, fIx_sy0, fIx_sy1, ite_tt, ite_ff]
        refine ⟨c, s, 5, rfl, fr7.tp, by decide, by decide, fun way m8 w0 w1 t8 => ?_⟩
        have fr8 := fr7.go t8
        have hp8 := t8.own hp7 hap
        try simp only [aSeq, aSet, aC, aVar, aOp, aTest, aTru, aAnd, aOr, aNot, aAndV, aOrV, aNotV, aIfE, aNil, aCons, aTup, aLst, aLstB, aUn, aCa, aSl, aNo, aPart, aM, aML, aRet, aRetN, aIf, aDo, aNext, aCont, aBrk, aAsg, aCall, aCallX, aMeth, aFld, aSetFld, aFldAug, aAug, aRaise, aMake, aYes, kName, kCons, kNil, kSub, nth, put, wipeD, asT_b, fAdd_i, fAdd_s, fAdd_t, fAdd_l, fSub_i, fLt_i, fLe_i, fGt_i, fGe_i, fMul_i, fMod_i, fFdiv_i, fPow_i, fNeg_i, fEq_i, fEq_s, fEq_b, fNe_i, fNe_s, fNe_b, fIn_s, fNi_s, fIx_t0, fIx_t1, fIx_t2, fIx_l0, fIx_l1, fSl_s, fSl_t, fSl_l, fLen_t, fLen_l, fInt_i, fAbs_i, fMax_i, fMin_i, fTuple_t, fTuple_l, fList_t, fList_l, fRepS_s, seqOf_t, seqOf_l, truD_b, truD_t, truD_l, kTup_t, fIsN_n, fIsi_non_int, fIsi_non_bool, fIsi_non_str, fIsi_non_tuple, fIsi_non_list, fIsi_bl_int, fIsi_bl_bool, fIsi_bl_str, fIsi_bl_tuple, fIsi_bl_list, fIsi_int_int, fIsi_int_bool, fIsi_int_str, fIsi_int_tuple, fIsi_int_list, fIsi_str_int, fIsi_str_bool, fIsi_str_str, fIsi_str_tuple, fIsi_str_list, fIsi_tup_int, fIsi_tup_bool, fIsi_tup_str, fIsi_tup_tuple, fIsi_tup_list, fIsi_lst_int, fIsi_lst_bool, fIsi_lst_str, fIsi_lst_tuple, fIsi_lst_list, isN, fIx_sy0, fIx_sy1, ite_tt, ite_ff]
        by_cases h0 : way = 0
        · rw [if_pos (decide_eq_true h0)]
          try simp only [aSeq, aSet, aC, aVar, aOp, aTest, aTru, aAnd, aOr, aNot, aAndV, aOrV, aNotV, aIfE, aNil, aCons, aTup, aLst, aLstB, aUn, aCa, aSl, aNo, aPart, aM, aML, aRet, aRetN, aIf, aDo, aNext, aCont, aBrk, aAsg, aCall, aCallX, aMeth, aFld, aSetFld, aFldAug, aAug, aRaise, aMake, aYes, kName, kCons, kNil, kSub, nth, put, wipeD, asT_b, fAdd_i, fAdd_s, fAdd_t, fAdd_l, fSub_i, fLt_i, fLe_i, fGt_i, fGe_i, fMul_i, fMod_i, fFdiv_i, fPow_i, fNeg_i, fEq_i, fEq_s, fEq_b, fNe_i, fNe_s, fNe_b, fIn_s, fNi_s, fIx_t0, fIx_t1, fIx_t2, fIx_l0, fIx_l1, fSl_s, fSl_t, fSl_l, fLen_t, fLen_l, fInt_i, fAbs_i, fMax_i, fMin_i, fTuple_t, fTuple_l, fList_t, fList_l, fRepS_s, seqOf_t, seqOf_l, truD_b, truD_t, truD_l, kTup_t, fIsN_n, fIsi_non_int, fIsi_non_bool, fIsi_non_str, fIsi_non_tuple, fIsi_non_list, fIsi_bl_int, fIsi_bl_bool, fIsi_bl_str, fIsi_bl_tuple, fIsi_bl_list, fIsi_int_int, fIsi_int_bool, fIsi_int_str, fIsi_int_tuple, fIsi_int_list, fIsi_str_int, fIsi_str_bool, fIsi_str_str, fIsi_str_tuple, fIsi_str_list, fIsi_tup_int, fIsi_tup_bool, fIsi_tup_str, fIsi_tup_tuple, fIsi_tup_list, fIsi_lst_int, fIsi_lst_bool, fIsi_lst_str, fIsi_lst_tuple, fIsi_lst_list, isN, fIx_sy0, fIx_sy1, ite_tt, ite_ff, isL_b hp8, true_and]
          refine ⟨c, s, 9, rfl, fr8.tp, by decide, by decide, fun q m9 q0 q1 t9 => ?_⟩
          obtain ⟨q, rfl⟩ := nn_of q0
          try simp only [aSeq, aSet, aC, aVar, aOp, aTest, aTru, aAnd, aOr, aNot, aAndV, aOrV, aNotV, aIfE, aNil, aCons, aTup, aLst, aLstB, aUn, aCa, aSl, aNo, aPart, aM, aML, aRet, aRetN, aIf, aDo, aNext, aCont, aBrk, aAsg, aCall, aCallX, aMeth, aFld, aSetFld, aFldAug, aAug, aRaise, aMake, aYes, kName, kCons, kNil, kSub, nth, put, wipeD, asT_b, fAdd_i, fAdd_s, fAdd_t, fAdd_l, fSub_i, fLt_i, fLe_i, fGt_i, fGe_i, fMul_i, fMod_i, fFdiv_i, fPow_i, fNeg_i, fEq_i, fEq_s, fEq_b, fNe_i, fNe_s, fNe_b, fIn_s, fNi_s, fIx_t0, fIx_t1, fIx_t2, fIx_l0, fIx_l1, fSl_s, fSl_t, fSl_l, fLen_t, fLen_l, fInt_i, fAbs_i, fMax_i, fMin_i, fTuple_t, fTuple_l, fList_t, fList_l, fRepS_s, seqOf_t, seqOf_l, truD_b, truD_t, truD_l, kTup_t, fIsN_n, fIsi_non_int, fIsi_non_bool, fIsi_non_str, fIsi_non_tuple, fIsi_non_list, fIsi_bl_int, fIsi_bl_bool, fIsi_bl_str, fIsi_bl_tuple, fIsi_bl_list, fIsi_int_int, fIsi_int_bool, fIsi_int_str, fIsi_int_tuple, fIsi_int_list, fIsi_str_int, fIsi_str_bool, fIsi_str_str, fIsi_str_tuple, fIsi_str_list, fIsi_tup_int, fIsi_tup_bool, fIsi_tup_str, fIsi_tup_tuple, fIsi_tup_list, fIsi_lst_int, fIsi_lst_bool, fIsi_lst_str, fIsi_lst_tuple, fIsi_lst_list, isN, fIx_sy0, fIx_sy1, ite_tt, ite_ff]
          refine ⟨c, s, ms, 1 + q, by rw [int_eq (show (1 : Int) + (q : Int) = ((1 + q : Nat) : Int) by omega)], (fr8.go t9).tp, hms, by omega, by omega, fun t m10 wt2 lt2 gt2 t10 => ?_⟩
          have hp10 := t10.own (t9.own hp8 hap) hap
          try simp only [aSeq, aSet, aC, aVar, aOp, aTest, aTru, aAnd, aOr, aNot, aAndV, aOrV, aNotV, aIfE, aNil, aCons, aTup, aLst, aLstB, aUn, aCa, aSl, aNo, aPart, aM, aML, aRet, aRetN, aIf, aDo, aNext, aCont, aBrk, aAsg, aCall, aCallX, aMeth, aFld, aSetFld, aFldAug, aAug, aRaise, aMake, aYes, kName, kCons, kNil, kSub, nth, put, wipeD, asT_b, fAdd_i, fAdd_s, fAdd_t, fAdd_l, fSub_i, fLt_i, fLe_i, fGt_i, fGe_i, fMul_i, fMod_i, fFdiv_i, fPow_i, fNeg_i, fEq_i, fEq_s, fEq_b, fNe_i, fNe_s, fNe_b, fIn_s, fNi_s, fIx_t0, fIx_t1, fIx_t2, fIx_l0, fIx_l1, fSl_s, fSl_t, fSl_l, fLen_t, fLen_l, fInt_i, fAbs_i, fMax_i, fMin_i, fTuple_t, fTuple_l, fList_t, fList_l, fRepS_s, seqOf_t, seqOf_l, truD_b, truD_t, truD_l, kTup_t, fIsN_n, fIsi_non_int, fIsi_non_bool, fIsi_non_str, fIsi_non_tuple, fIsi_non_list, fIsi_bl_int, fIsi_bl_bool, fIsi_bl_str, fIsi_bl_tuple, fIsi_bl_list, fIsi_int_int, fIsi_int_bool, fIsi_int_str, fIsi_int_tuple, fIsi_int_list, fIsi_str_int, fIsi_str_bool, fIsi_str_str, fIsi_str_tuple, fIsi_str_list, fIsi_tup_int, fIsi_tup_bool, fIsi_tup_str, fIsi_tup_tuple, fIsi_tup_list, fIsi_lst_int, fIsi_lst_bool, fIsi_lst_str, fIsi_lst_tuple, fIsi_lst_list, isN, fIx_sy0, fIx_sy1, ite_tt, ite_ff, fApp_b hp10]
          rw [List.length_map]
          refine ⟨by omega, fin t _ _ _ _ ⟨wt2, fun x hx => .inl (gt2 x hx), by omega⟩ ((fr8.go t9).go t10)⟩
        · rw [if_neg (by simpa using h0)]
          try simp only [aSeq, aSet, aC, aVar, aOp, aTest, aTru, aAnd, aOr, aNot, aAndV, aOrV, aNotV, aIfE, aNil, aCons, aTup, aLst, aLstB, aUn, aCa, aSl, aNo, aPart, aM, aML, aRet, aRetN, aIf, aDo, aNext, aCont, aBrk, aAsg, aCall, aCallX, aMeth, aFld, aSetFld, aFldAug, aAug, aRaise, aMake, aYes, kName, kCons, kNil, kSub, nth, put, wipeD, asT_b, fAdd_i, fAdd_s, fAdd_t, fAdd_l, fSub_i, fLt_i, fLe_i, fGt_i, fGe_i, fMul_i, fMod_i, fFdiv_i, fPow_i, fNeg_i, fEq_i, fEq_s, fEq_b, fNe_i, fNe_s, fNe_b, fIn_s, fNi_s, fIx_t0, fIx_t1, fIx_t2, fIx_l0, fIx_l1, fSl_s, fSl_t, fSl_l, fLen_t, fLen_l, fInt_i, fAbs_i, fMax_i, fMin_i, fTuple_t, fTuple_l, fList_t, fList_l, fRepS_s, seqOf_t, seqOf_l, truD_b, truD_t, truD_l, kTup_t, fIsN_n, fIsi_non_int, fIsi_non_bool, fIsi_non_str, fIsi_non_tuple, fIsi_non_list, fIsi_bl_int, fIsi_bl_bool, fIsi_bl_str, fIsi_bl_tuple, fIsi_bl_list, fIsi_int_int, fIsi_int_bool, fIsi_int_str, fIsi_int_tuple, fIsi_int_list, fIsi_str_int, fIsi_str_bool, fIsi_str_str, fIsi_str_tuple, fIsi_str_list, fIsi_tup_int, fIsi_tup_bool, fIsi_tup_str, fIsi_tup_tuple, fIsi_tup_list, fIsi_lst_int, fIsi_lst_bool, fIsi_lst_str, fIsi_lst_tuple, fIsi_lst_list, isN, fIx_sy0, fIx_sy1, ite_tt, ite_ff]
          by_cases h1 : way = 1
          · rw [if_pos (decide_eq_true h1)]
            try simp only [aSeq, aSet, aC, aVar, aOp, aTest, aTru, aAnd, aOr, aNot, aAndV, aOrV, aNotV, aIfE, aNil, aCons, aTup, aLst, aLstB, aUn, aCa, aSl, aNo, aPart, aM, aML, aRet, aRetN, aIf, aDo, aNext, aCont, aBrk, aAsg, aCall, aCallX, aMeth, aFld, aSetFld, aFldAug, aAug, aRaise, aMake, aYes, kName, kCons, kNil, kSub, nth, put, wipeD, asT_b, fAdd_i, fAdd_s, fAdd_t, fAdd_l, fSub_i, fLt_i, fLe_i, fGt_i, fGe_i, fMul_i, fMod_i, fFdiv_i, fPow_i, fNeg_i, fEq_i, fEq_s, fEq_b, fNe_i, fNe_s, fNe_b, fIn_s, fNi_s, fIx_t0, fIx_t1, fIx_t2, fIx_l0, fIx_l1, fSl_s, fSl_t, fSl_l, fLen_t, fLen_l, fInt_i, fAbs_i, fMax_i, fMin_i, fTuple_t, fTuple_l, fList_t, fList_l, fRepS_s, seqOf_t, seqOf_l, truD_b, truD_t, truD_l, kTup_t, fIsN_n, fIsi_non_int, fIsi_non_bool, fIsi_non_str, fIsi_non_tuple, fIsi_non_list, fIsi_bl_int, fIsi_bl_bool, fIsi_bl_str, fIsi_bl_tuple, fIsi_bl_list, fIsi_int_int, fIsi_int_bool, fIsi_int_str, fIsi_int_tuple, fIsi_int_list, fIsi_str_int, fIsi_str_bool, fIsi_str_str, fIsi_str_tuple, fIsi_str_list, fIsi_tup_int, fIsi_tup_bool, fIsi_tup_str, fIsi_tup_tuple, fIsi_tup_list, fIsi_lst_int, fIsi_lst_bool, fIsi_lst_str, fIsi_lst_tuple, fIsi_lst_list, isN, fIx_sy0, fIx_sy1, ite_tt, ite_ff, isL_b hp8, true_and, fLen_b hp8]
            rw [List.length_map]
            refine ⟨c, s, rows.length, rfl, fr8.tp, by omega, by omega, fun q m9 q0 q1 t9 => ?_⟩
            obtain ⟨r, hr, er⟩ := rows_get q0 q1
            have hp9 := t9.own hp8 hap
            try simp only [aSeq, aSet, aC, aVar, aOp, aTest, aTru, aAnd, aOr, aNot, aAndV, aOrV, aNotV, aIfE, aNil, aCons, aTup, aLst, aLstB, aUn, aCa, aSl, aNo, aPart, aM, aML, aRet, aRetN, aIf, aDo, aNext, aCont, aBrk, aAsg, aCall, aCallX, aMeth, aFld, aSetFld, aFldAug, aAug, aRaise, aMake, aYes, kName, kCons, kNil, kSub, nth, put, wipeD, asT_b, fAdd_i, fAdd_s, fAdd_t, fAdd_l, fSub_i, fLt_i, fLe_i, fGt_i, fGe_i, fMul_i, fMod_i, fFdiv_i, fPow_i, fNeg_i, fEq_i, fEq_s, fEq_b, fNe_i, fNe_s, fNe_b, fIn_s, fNi_s, fIx_t0, fIx_t1, fIx_t2, fIx_l0, fIx_l1, fSl_s, fSl_t, fSl_l, fLen_t, fLen_l, fInt_i, fAbs_i, fMax_i, fMin_i, fTuple_t, fTuple_l, fList_t, fList_l, fRepS_s, seqOf_t, seqOf_l, truD_b, truD_t, truD_l, kTup_t, fIsN_n, fIsi_non_int, fIsi_non_bool, fIsi_non_str, fIsi_non_tuple, fIsi_non_list, fIsi_bl_int, fIsi_bl_bool, fIsi_bl_str, fIsi_bl_tuple, fIsi_bl_list, fIsi_int_int, fIsi_int_bool, fIsi_int_str, fIsi_int_tuple, fIsi_int_list, fIsi_str_int, fIsi_str_bool, fIsi_str_str, fIsi_str_tuple, fIsi_str_list, fIsi_tup_int, fIsi_tup_bool, fIsi_tup_str, fIsi_tup_tuple, fIsi_tup_list, fIsi_lst_int, fIsi_lst_bool, fIsi_lst_str, fIsi_lst_tuple, fIsi_lst_list, isN, fIx_sy0, fIx_sy1, ite_tt, ite_ff, fIx_b hp9 er, fApp_b hp9]
            rw [List.length_map]
            exact ⟨by omega, fin r _ _ _ _ (ok7.all r hr) (fr8.go t9)⟩
          · rw [if_neg (by simpa using h1)]
            refine cut_plain ?_
            try simp only [aSeq, aSet, aC, aVar, aOp, aTest, aTru, aAnd, aOr, aNot, aAndV, aOrV, aNotV, aIfE, aNil, aCons, aTup, aLst, aLstB, aUn, aCa, aSl, aNo, aPart, aM, aML, aRet, aRetN, aIf, aDo, aNext, aCont, aBrk, aAsg, aCall, aCallX, aMeth, aFld, aSetFld, aFldAug, aAug, aRaise, aMake, aYes, kName, kCons, kNil, kSub, nth, put, wipeD, asT_b, fAdd_i, fAdd_s, fAdd_t, fAdd_l, fSub_i, fLt_i, fLe_i, fGt_i, fGe_i, fMul_i, fMod_i, fFdiv_i, fPow_i, fNeg_i, fEq_i, fEq_s, fEq_b, fNe_i, fNe_s, fNe_b, fIn_s, fNi_s, fIx_t0, fIx_t1, fIx_t2, fIx_l0, fIx_l1, fSl_s, fSl_t, fSl_l, fLen_t, fLen_l, fInt_i, fAbs_i, fMax_i, fMin_i, fTuple_t, fTuple_l, fList_t, fList_l, fRepS_s, seqOf_t, seqOf_l, truD_b, truD_t, truD_l, kTup_t, fIsN_n, fIsi_non_int, fIsi_non_bool, fIsi_non_str, fIsi_non_tuple, fIsi_non_list, fIsi_bl_int, fIsi_bl_bool, fIsi_bl_str, fIsi_bl_tuple, fIsi_bl_list, fIsi_int_int, fIsi_int_bool, fIsi_int_str, fIsi_int_tuple, fIsi_int_list, fIsi_str_int, fIsi_str_bool, fIsi_str_str, fIsi_str_tuple, fIsi_str_list, fIsi_tup_int, fIsi_tup_bool, fIsi_tup_str, fIsi_tup_tuple, fIsi_tup_list, fIsi_lst_int, fIsi_lst_bool, fIsi_lst_str, fIsi_lst_tuple, fIsi_lst_list, isN, fIx_sy0, fIx_sy1, ite_tt, ite_ff, fLen_b hp8]
            rw [List.length_map]
            refine ⟨c, s, rows.length, rfl, fr8.tp, by omega, by omega, fun q m9 q0 q1 t9 => ?_⟩
            obtain ⟨r, hr, er⟩ := rows_get q0 q1
            have hp9 := t9.own hp8 hap
            have fr9 := fr8.go t9
            try simp only [aSeq, aSet, aC, aVar, aOp, aTest, aTru, aAnd, aOr, aNot, aAndV, aOrV, aNotV, aIfE, aNil, aCons, aTup, aLst, aLstB, aUn, aCa, aSl, aNo, aPart, aM, aML, aRet, aRetN, aIf, aDo, aNext, aCont, aBrk, aAsg, aCall, aCallX, aMeth, aFld, aSetFld, aFldAug, aAug, aRaise, aMake, aYes, kName, kCons, kNil, kSub, nth, put, wipeD, asT_b, fAdd_i, fAdd_s, fAdd_t, fAdd_l, fSub_i, fLt_i, fLe_i, fGt_i, fGe_i, fMul_i, fMod_i, fFdiv_i, fPow_i, fNeg_i, fEq_i, fEq_s, fEq_b, fNe_i, fNe_s, fNe_b, fIn_s, fNi_s, fIx_t0, fIx_t1, fIx_t2, fIx_l0, fIx_l1, fSl_s, fSl_t, fSl_l, fLen_t, fLen_l, fInt_i, fAbs_i, fMax_i, fMin_i, fTuple_t, fTuple_l, fList_t, fList_l, fRepS_s, seqOf_t, seqOf_l, truD_b, truD_t, truD_l, kTup_t, fIsN_n, fIsi_non_int, fIsi_non_bool, fIsi_non_str, fIsi_non_tuple, fIsi_non_list, fIsi_bl_int, fIsi_bl_bool, fIsi_bl_str, fIsi_bl_tuple, fIsi_bl_list, fIsi_int_int, fIsi_int_bool, fIsi_int_str, fIsi_int_tuple, fIsi_int_list, fIsi_str_int, fIsi_str_bool, fIsi_str_str, fIsi_str_tuple, fIsi_str_list, fIsi_tup_int, fIsi_tup_bool, fIsi_tup_str, fIsi_tup_tuple, fIsi_tup_list, fIsi_lst_int, fIsi_lst_bool, fIsi_lst_str, fIsi_lst_tuple, fIsi_lst_list, isN, fIx_sy0, fIx_sy1, ite_tt, ite_ff, fIx_b hp9 er]
            refine ⟨c, s, ms, mo, r, rfl, fr9.tp, hms, hmo, ok7.all r hr, fun t m10 ht10 t10 => ?_⟩
            have hp10 := t10.own hp9 hap
            have fr10 := fr9.go t10
            try simp only [aSeq, aSet, aC, aVar, aOp, aTest, aTru, aAnd, aOr, aNot, aAndV, aOrV, aNotV, aIfE, aNil, aCons, aTup, aLst, aLstB, aUn, aCa, aSl, aNo, aPart, aM, aML, aRet, aRetN, aIf, aDo, aNext, aCont, aBrk, aAsg, aCall, aCallX, aMeth, aFld, aSetFld, aFldAug, aAug, aRaise, aMake, aYes, kName, kCons, kNil, kSub, nth, put, wipeD, asT_b, fAdd_i, fAdd_s, fAdd_t, fAdd_l, fSub_i, fLt_i, fLe_i, fGt_i, fGe_i, fMul_i, fMod_i, fFdiv_i, fPow_i, fNeg_i, fEq_i, fEq_s, fEq_b, fNe_i, fNe_s, fNe_b, fIn_s, fNi_s, fIx_t0, fIx_t1, fIx_t2, fIx_l0, fIx_l1, fSl_s, fSl_t, fSl_l, fLen_t, fLen_l, fInt_i, fAbs_i, fMax_i, fMin_i, fTuple_t, fTuple_l, fList_t, fList_l, fRepS_s, seqOf_t, seqOf_l, truD_b, truD_t, truD_l, kTup_t, fIsN_n, fIsi_non_int, fIsi_non_bool, fIsi_non_str, fIsi_non_tuple, fIsi_non_list, fIsi_bl_int, fIsi_bl_bool, fIsi_bl_str, fIsi_bl_tuple, fIsi_bl_list, fIsi_int_int, fIsi_int_bool, fIsi_int_str, fIsi_int_tuple, fIsi_int_list, fIsi_str_int, fIsi_str_bool, fIsi_str_str, fIsi_str_tuple, fIsi_str_list, fIsi_tup_int, fIsi_tup_bool, fIsi_tup_str, fIsi_tup_tuple, fIsi_tup_list, fIsi_lst_int, fIsi_lst_bool, fIsi_lst_str, fIsi_lst_tuple, fIsi_lst_list, isN, fIx_sy0, fIx_sy1, ite_tt, ite_ff, isL_b hp10, true_and, fLen_row]
            by_cases hl : (t.length : Int) < 31
            · rw [if_pos (decide_eq_true hl)]
              try simp only [aSeq, aSet, aC, aVar, aOp, aTest, aTru, aAnd, aOr, aNot, aAndV, aOrV, aNotV, aIfE, aNil, aCons, aTup, aLst, aLstB, aUn, aCa, aSl, aNo, aPart, aM, aML, aRet, aRetN, aIf, aDo, aNext, aCont, aBrk, aAsg, aCall, aCallX, aMeth, aFld, aSetFld, aFldAug, aAug, aRaise, aMake, aYes, kName, kCons, kNil, kSub, nth, put, wipeD, asT_b, fAdd_i, fAdd_s, fAdd_t, fAdd_l, fSub_i, fLt_i, fLe_i, fGt_i, fGe_i, fMul_i, fMod_i, fFdiv_i, fPow_i, fNeg_i, fEq_i, fEq_s, fEq_b, fNe_i, fNe_s, fNe_b, fIn_s, fNi_s, fIx_t0, fIx_t1, fIx_t2, fIx_l0, fIx_l1, fSl_s, fSl_t, fSl_l, fLen_t, fLen_l, fInt_i, fAbs_i, fMax_i, fMin_i, fTuple_t, fTuple_l, fList_t, fList_l, fRepS_s, seqOf_t, seqOf_l, truD_b, truD_t, truD_l, kTup_t, fIsN_n, fIsi_non_int, fIsi_non_bool, fIsi_non_str, fIsi_non_tuple, fIsi_non_list, fIsi_bl_int, fIsi_bl_bool, fIsi_bl_str, fIsi_bl_tuple, fIsi_bl_list, fIsi_int_int, fIsi_int_bool, fIsi_int_str, fIsi_int_tuple, fIsi_int_list, fIsi_str_int, fIsi_str_bool, fIsi_str_str, fIsi_str_tuple, fIsi_str_list, fIsi_tup_int, fIsi_tup_bool, fIsi_tup_str, fIsi_tup_tuple, fIsi_tup_list, fIsi_lst_int, fIsi_lst_bool, fIsi_lst_str, fIsi_lst_tuple, fIsi_lst_list, isN, fIx_sy0, fIx_sy1, ite_tt, ite_ff, fApp_b hp10]
              rw [List.length_map]
              exact ⟨by omega, fin t _ _ _ _ ⟨ht10.wh, ht10.fr, by omega⟩ fr10⟩
            · rw [if_neg (by simpa using hl)]
              try simp only [aSeq, aSet, aC, aVar, aOp, aTest, aTru, aAnd, aOr, aNot, aAndV, aOrV, aNotV, aIfE, aNil, aCons, aTup, aLst, aLstB, aUn, aCa, aSl, aNo, aPart, aM, aML, aRet, aRetN, aIf, aDo, aNext, aCont, aBrk, aAsg, aCall, aCallX, aMeth, aFld, aSetFld, aFldAug, aAug, aRaise, aMake, aYes, kName, kCons, kNil, kSub, nth, put, wipeD, asT_b, fAdd_i, fAdd_s, fAdd_t, fAdd_l, fSub_i, fLt_i, fLe_i, fGt_i, fGe_i, fMul_i, fMod_i, fFdiv_i, fPow_i, fNeg_i, fEq_i, fEq_s, fEq_b, fNe_i, fNe_s, fNe_b, fIn_s, fNi_s, fIx_t0, fIx_t1, fIx_t2, fIx_l0, fIx_l1, fSl_s, fSl_t, fSl_l, fLen_t, fLen_l, fInt_i, fAbs_i, fMax_i, fMin_i, fTuple_t, fTuple_l, fList_t, fList_l, fRepS_s, seqOf_t, seqOf_l, truD_b, truD_t, truD_l, kTup_t, fIsN_n, fIsi_non_int, fIsi_non_bool, fIsi_non_str, fIsi_non_tuple, fIsi_non_list, fIsi_bl_int, fIsi_bl_bool, fIsi_bl_str, fIsi_bl_tuple, fIsi_bl_list, fIsi_int_int, fIsi_int_bool, fIsi_int_str, fIsi_int_tuple, fIsi_int_list, fIsi_str_int, fIsi_str_bool, fIsi_str_str, fIsi_str_tuple, fIsi_str_list, fIsi_tup_int, fIsi_tup_bool, fIsi_tup_str, fIsi_tup_tuple, fIsi_tup_list, fIsi_lst_int, fIsi_lst_bool, fIsi_lst_str, fIsi_lst_tuple, fIsi_lst_list, isN, fIx_sy0, fIx_sy1, ite_tt, ite_ff, fApp_b hp10]
              rw [List.length_map]
              exact ⟨by omega, fin tall _ _ _ _ ht fr10⟩
      · rintro g m7 ⟨rows, x, y, z, rfl, hp7, fr7, ok7⟩
        have hfew := ok7.few
        try simp only [aSeq, aSet, aC, aVar, aOp, aTest, aTru, aAnd, aOr, aNot, aAndV, aOrV, aNotV, aIfE, aNil, aCons, aTup, aLst, aLstB, aUn, aCa, aSl, aNo, aPart, aM, aML, aRet, aRetN, aIf, aDo, aNext, aCont, aBrk, aAsg, aCall, aCallX, aMeth, aFld, aSetFld, aFldAug, aAug, aRaise, aMake, aYes, kName, kCons, kNil, kSub, nth, put, wipeD, asT_b, fAdd_i, fAdd_s, fAdd_t, fAdd_l, fSub_i, fLt_i, fLe_i, fGt_i, fGe_i, fMul_i, fMod_i, fFdiv_i, fPow_i, fNeg_i, fEq_i, fEq_s, fEq_b, fNe_i, fNe_s, fNe_b, fIn_s, fNi_s, fIx_t0, fIx_t1, fIx_t2, fIx_l0, fIx_l1, fSl_s, fSl_t, fSl_l, fLen_t, fLen_l, fInt_i, fAbs_i, fMax_i, fMin_i, fTuple_t, fTuple_l, fList_t, fList_l, fRepS_s, seqOf_t, seqOf_l, truD_b, truD_t, truD_l, kTup_t, fIsN_n, fIsi_non_int, fIsi_non_bool, fIsi_non_str, fIsi_non_tuple, fIsi_non_list, fIsi_bl_int, fIsi_bl_bool, fIsi_bl_str, fIsi_bl_tuple, fIsi_bl_list, fIsi_int_int, fIsi_int_bool, fIsi_int_str, fIsi_int_tuple, fIsi_int_list, fIsi_str_int, fIsi_str_bool, fIsi_str_str, fIsi_str_tuple, fIsi_str_list, fIsi_tup_int, fIsi_tup_bool, fIsi_tup_str, fIsi_tup_tuple, fIsi_tup_list, fIsi_lst_int, fIsi_lst_bool, fIsi_lst_str, fIsi_lst_tuple, fIsi_lst_list, isN, fIx_sy0, fIx_sy1, ite_tt, ite_ff]
        exact ⟨_, _, Fz.lst hp7, hq mo rows _ hmo ⟨ok7.ne, by omega, ok7.all⟩ (fr7.del hpm).end_⟩
end AL
set_option maxHeartbeats 4000000
namespace AL
open PySem L2 Evl
variable {K : PySem.W.Frag}
/-! ### the law's own order of rows -/
abbrev goodR (r : Rw) : Prop := ∀ s ∈ r, goodSy s
theorem small_of {r : Rw} (h : goodR r) (hl : r.length ≤ 600) : Small r := ⟨hl, fun s hs => (word_len (h s hs).1).2⟩
def rPy (r : Rw) : PyData := .tuple (r.map syPy)
theorem pyD_row (r : Rw) : pyD (rowD r) = some (rPy r) := by
  show (match pyDs (r.map syD) with
    | some xs => some (PyData.tuple xs)
    | none => none) = _
  rw [pyDs_row]
  rfl
theorem pyDs_rows : ∀ l : List Rw, pyDs (l.map rowD) = some (l.map rPy)
  | [] => rfl
  | r :: l => by
    show (match pyD (rowD r) with
      | some x => (match pyDs (l.map rowD) with
        | some xs => some (x :: xs)
        | none => none)
      | none => none) = _
    rw [pyD_row, pyDs_rows l]
    rfl
theorem word_cp {w : List Nat} (h : okWord w) : PyData.strOk (tx w) = true := by
  have z : ∀ c ∈ w, c < 1114112 := by
    rcases h with rfl | ⟨c, r, rfl, h1, h2, _⟩
    · decide
    · intro x hx
      rcases List.mem_cons.mp hx with rfl | hx
      · have := h1.2
        omega
      · rcases h2 x hx with ⟨_, h⟩ | ⟨_, h⟩ | rfl <;> omega
  unfold PyData.strOk
  rw [Array.all_eq_true']
  intro c hc
  have : c ∈ w := by simpa [tx] using hc
  simpa using z c this
theorem lay_row : ∀ {r : Rw}, goodR r → PyData.canLayAll0 (r.map syPy) = true
  | [], _ => rfl
  | s :: r, h => by
    rw [List.map_cons, PyData.canLayAll0, lay_row fun x hx => h x (List.mem_cons_of_mem _ hx)]
    simp [syPy, PyData.canLay0, PyData.canLayAll0, word_cp (h s List.mem_cons_self).1]
theorem lay_rows : ∀ {l : List Rw}, (∀ r ∈ l, goodR r) → PyData.canLayAll0 (l.map rPy) = true
  | [], _ => rfl
  | r :: l, h => by
    rw [List.map_cons, PyData.canLayAll0, lay_rows fun x hx => h x (List.mem_cons_of_mem _ hx)]
    simp [rPy, PyData.canLay0, lay_row (h r List.mem_cons_self)]
theorem deep_rows : ∀ l : List Rw, PyData.depthAll (l.map rPy) ≤ 5
  | [] => by simp [PyData.depthAll]
  | r :: l => by
    have := deep_rows l
    have := depth_rows r
    rw [List.map_cons]
    simp only [PyData.depthAll, rPy, PyData.depth] at *
    omega
theorem shaped_row {r : Rw} (h : goodR r) : SeqAt.shaped (rPy r) = true := by
  have := depth_rows r
  have e1 : PyData.canLay0 (rPy r) = true := by
    unfold rPy
    rw [PyData.canLay0]
    exact lay_row h
  have e2 : PyData.depth (rPy r) ≤ 64 := by
    unfold rPy
    simp only [PyData.depth]
    omega
  unfold SeqAt.shaped
  rw [e1, decide_eq_true e2]
  rfl
theorem shaped_rows {l : List Rw} (h : ∀ r ∈ l, goodR r) : SeqAt.shaped (.list (l.map rPy)) = true := by
  have := deep_rows l
  have e1 : PyData.canLay0 (.list (l.map rPy)) = true := by
    rw [PyData.canLay0]
    exact lay_rows h
  have e2 : PyData.depth (.list (l.map rPy)) ≤ 64 := by
    simp only [PyData.depth]
    omega
  unfold SeqAt.shaped
  rw [e1, decide_eq_true e2]
  rfl
theorem eqv_row : ∀ {a b : Rw}, PyData.eqvAll (a.map syPy) (b.map syPy) = true ↔ a = b
  | [], [] => by simp [PyData.eqvAll]
  | [], t :: b => by simp [PyData.eqvAll]
  | s :: a, [] => by simp [PyData.eqvAll]
  | s :: a, t :: b => by
    rw [List.map_cons, List.map_cons, PyData.eqvAll, Bool.and_eq_true, eqv_sy, eqv_row, List.cons.injEq]
theorem any_row (l : List Rw) (r : Rw) : ((l.map rPy).any fun z => PyData.eqv z (rPy r)) = decide (r ∈ l) := by
  have e : ∀ x : Rw, PyData.eqv (rPy x) (rPy r) = decide (r = x) := fun x => by
    have h : PyData.eqv (rPy x) (rPy r) = PyData.eqvAll (x.map syPy) (r.map syPy) := by simp [rPy, PyData.eqv]
    rw [h]
    cases z : PyData.eqvAll (x.map syPy) (r.map syPy) with
    | true => rw [eqv_row.mp z, decide_eq_true rfl]
    | false =>
      rw [decide_eq_false]
      rintro rfl
      rw [eqv_row.mpr rfl] at z
      cases z
  rw [List.any_map]
  induction l with
  | nil => rfl
  | cons x l ih =>
    rw [List.any_cons, ih]
    show (PyData.eqv (rPy x) (rPy r) || _) = _
    rw [e]
    simp
def fillR (l ch : List Rw) : List D := ch.map fun x => if x ∈ l then rowD x else .non
theorem fill_set {l ch : List Rw} {i : Nat} {x : Rw} (hn : ch.Nodup) (h : ch[i]? = some x) : (fillR l ch).set i (rowD x) = fillR (l ++ [x]) ch := by
  unfold fillR
  refine List.ext_getElem? fun j => ?_
  by_cases hj : i = j
  · subst hj
    have hi : i < ch.length := (List.getElem?_eq_some_iff.mp h).1
    rw [List.getElem?_set_self (by simpa using hi), List.getElem?_map, h]
    simp
  · rw [List.getElem?_set_ne hj, List.getElem?_map, List.getElem?_map]
    cases e : ch[j]? with
    | none => rfl
    | some y =>
      have ne : y ≠ x := fun z => hj ((List.getElem?_inj (List.getElem?_eq_some_iff.mp h).1 hn).mp (by rw [h, e, z]))
      simp [ne]
def sp_law_sorted : ASp := fun ds m P _ => ∃ rows : List Rw, ds = [.lst (rows.map rowD)] ∧ rows.length ≤ 100 ∧ (∀ r ∈ rows, goodR r ∧ r.length ≤ 600) ∧ ∀ ch, IsChain rows ch → P (rowsD ch) m
theorem rd_law_sorted : ∀ ds m Q W, sp_law_sorted ds m Q W → b_law_sorted sp_law_before W { nx := fun _ m' => fzE K Q .non m', rt := fzE K Q } (ds.map some ++ List.replicate (N_law_sorted.length - ds.length) none) m := by
  rintro ds m Q W ⟨rows, rfl, hl, hg, hq⟩
  change b_law_sorted _ W _ [some (.lst (rows.map rowD)), none, none, none, none] m
  unfold b_law_sorted
  simp only [aSeq, aSet, aC, aVar, aOp, aTest, aTru, aAnd, aOr, aNot, aAndV, aOrV, aNotV, aIfE, aNil, aCons, aTup, aLst, aLstB, aUn, aCa, aSl, aNo, aPart, aM, aML, aRet, aRetN, aIf, aDo, aNext, aCont, aBrk, aAsg, aCall, aCallX, aMeth, aFld, aSetFld, aFldAug, aAug, aRaise, aMake, aYes, kName, kCons, kNil, kSub, nth, put, wipeD, asT_b, fAdd_i, fAdd_s, fAdd_t, fAdd_l, fSub_i, fLt_i, fLe_i, fGt_i, fGe_i, fMul_i, fMod_i, fFdiv_i, fPow_i, fNeg_i, fEq_i, fEq_s, fEq_b, fNe_i, fNe_s, fNe_b, fIn_s, fNi_s, fIx_t0, fIx_t1, fIx_t2, fIx_l0, fIx_l1, fSl_s, fSl_t, fSl_l, fLen_t, fLen_l, fInt_i, fAbs_i, fMax_i, fMin_i, fTuple_t, fTuple_l, fList_t, fList_l, fRepS_s, seqOf_t, seqOf_l, truD_b, truD_t, truD_l, kTup_t, fIsN_n, fIsi_non_int, fIsi_non_bool, fIsi_non_str, fIsi_non_tuple, fIsi_non_list, fIsi_bl_int, fIsi_bl_bool, fIsi_bl_str, fIsi_bl_tuple, fIsi_bl_list, fIsi_int_int, fIsi_int_bool, fIsi_int_str, fIsi_int_tuple, fIsi_int_list, fIsi_str_int, fIsi_str_bool, fIsi_str_str, fIsi_str_tuple, fIsi_str_list, fIsi_tup_int, fIsi_tup_bool, fIsi_tup_str, fIsi_tup_tuple, fIsi_tup_list, fIsi_lst_int, fIsi_lst_bool, fIsi_lst_str, fIsi_lst_tuple, fIsi_lst_list, isN, fIx_sy0, fIx_sy1, ite_tt, ite_ff]
  refine ⟨by simp, fun p hp => ?_⟩
  try simp only [aSeq, aSet, aC, aVar, aOp, aTest, aTru, aAnd, aOr, aNot, aAndV, aOrV, aNotV, aIfE, aNil, aCons, aTup, aLst, aLstB, aUn, aCa, aSl, aNo, aPart, aM, aML, aRet, aRetN, aIf, aDo, aNext, aCont, aBrk, aAsg, aCall, aCallX, aMeth, aFld, aSetFld, aFldAug, aAug, aRaise, aMake, aYes, kName, kCons, kNil, kSub, nth, put, wipeD, asT_b, fAdd_i, fAdd_s, fAdd_t, fAdd_l, fSub_i, fLt_i, fLe_i, fGt_i, fGe_i, fMul_i, fMod_i, fFdiv_i, fPow_i, fNeg_i, fEq_i, fEq_s, fEq_b, fNe_i, fNe_s, fNe_b, fIn_s, fNi_s, fIx_t0, fIx_t1, fIx_t2, fIx_l0, fIx_l1, fSl_s, fSl_t, fSl_l, fLen_t, fLen_l, fInt_i, fAbs_i, fMax_i, fMin_i, fTuple_t, fTuple_l, fList_t, fList_l, fRepS_s, seqOf_t, seqOf_l, truD_b, truD_t, truD_l, kTup_t, fIsN_n, fIsi_non_int, fIsi_non_bool, fIsi_non_str, fIsi_non_tuple, fIsi_non_list, fIsi_bl_int, fIsi_bl_bool, fIsi_bl_str, fIsi_bl_tuple, fIsi_bl_list, fIsi_int_int, fIsi_int_bool, fIsi_int_str, fIsi_int_tuple, fIsi_int_list, fIsi_str_int, fIsi_str_bool, fIsi_str_str, fIsi_str_tuple, fIsi_str_list, fIsi_tup_int, fIsi_tup_bool, fIsi_tup_str, fIsi_tup_tuple, fIsi_tup_list, fIsi_lst_int, fIsi_lst_bool, fIsi_lst_str, fIsi_lst_tuple, fIsi_lst_list, isN, fIx_sy0, fIx_sy1, ite_tt, ite_ff, aFor]
  refine ⟨rows.map rowD, rfl, fun i g m' => ∃ a, g = [some (.lst (rows.map rowD)), some (.box p), a, none, none] ∧ m' = mset m p (.lst ((dd (rows.take i)).map rowD)), ⟨none, rfl, rfl⟩, fun _ _ _ _ _ => rfl, ?_, ?_⟩
  · rintro i x g m' hx ⟨a, rfl, rfl⟩
    have hi : i < rows.length := by
      have := (List.getElem?_eq_some_iff.mp hx).1
      simpa using this
    have ex : x = rowD rows[i] := by
      rw [List.getElem?_map, List.getElem?_eq_getElem hi] at hx
      cases hx
      rfl
    subst ex
    have hd : ∀ r ∈ dd (rows.take i), goodR r := fun r hr => (hg r (List.mem_of_mem_take (dd_mem.mp hr))).1
    have hlen := dd_len (rows.take i)
    rw [List.length_take] at hlen
    have e1 : dd (rows.take (i + 1)) = dstep (dd (rows.take i)) rows[i] := by
      rw [List.take_succ, List.getElem?_eq_getElem hi]
      exact dd_snoc _ _
    have hgr := (hg rows[i] (List.getElem_mem hi)).1
    generalize rows[i] = r at *
    generalize dd (rows.take i) = once at *
    have eb : dataOf (mset m p (.lst (once.map rowD))) (.box p) = some (.list (once.map rPy)) := by
      show (match (mset m p (.lst (once.map rowD))) p with
        | some (.lst ds) => (match pyDs ds with
          | some xs => some (PyData.list xs)
          | none => none)
        | _ => none) = _
      rw [mset_same]
      simp only [pyDs_rows]
    try simp only [aSeq, aSet, aC, aVar, aOp, aTest, aTru, aAnd, aOr, aNot, aAndV, aOrV, aNotV, aIfE, aNil, aCons, aTup, aLst, aLstB, aUn, aCa, aSl, aNo, aPart, aM, aML, aRet, aRetN, aIf, aDo, aNext, aCont, aBrk, aAsg, aCall, aCallX, aMeth, aFld, aSetFld, aFldAug, aAug, aRaise, aMake, aYes, kName, kCons, kNil, kSub, nth, put, wipeD, asT_b, fAdd_i, fAdd_s, fAdd_t, fAdd_l, fSub_i, fLt_i, fLe_i, fGt_i, fGe_i, fMul_i, fMod_i, fFdiv_i, fPow_i, fNeg_i, fEq_i, fEq_s, fEq_b, fNe_i, fNe_s, fNe_b, fIn_s, fNi_s, fIx_t0, fIx_t1, fIx_t2, fIx_l0, fIx_l1, fSl_s, fSl_t, fSl_l, fLen_t, fLen_l, fInt_i, fAbs_i, fMax_i, fMin_i, fTuple_t, fTuple_l, fList_t, fList_l, fRepS_s, seqOf_t, seqOf_l, truD_b, truD_t, truD_l, kTup_t, fIsN_n, fIsi_non_int, fIsi_non_bool, fIsi_non_str, fIsi_non_tuple, fIsi_non_list, fIsi_bl_int, fIsi_bl_bool, fIsi_bl_str, fIsi_bl_tuple, fIsi_bl_list, fIsi_int_int, fIsi_int_bool, fIsi_int_str, fIsi_int_tuple, fIsi_int_list, fIsi_str_int, fIsi_str_bool, fIsi_str_str, fIsi_str_tuple, fIsi_str_list, fIsi_tup_int, fIsi_tup_bool, fIsi_tup_str, fIsi_tup_tuple, fIsi_tup_list, fIsi_lst_int, fIsi_lst_bool, fIsi_lst_str, fIsi_lst_tuple, fIsi_lst_list, isN, fIx_sy0, fIx_sy1, ite_tt, ite_ff]
    refine ⟨rPy r, once.map rPy, pyD_row r, eb, shaped_row hgr, shaped_rows hd, ?_⟩
    rw [any_row]
    unfold dstep at e1
    by_cases h : r ∈ once
    · try simp only [aSeq, aSet, aC, aVar, aOp, aTest, aTru, aAnd, aOr, aNot, aAndV, aOrV, aNotV, aIfE, aNil, aCons, aTup, aLst, aLstB, aUn, aCa, aSl, aNo, aPart, aM, aML, aRet, aRetN, aIf, aDo, aNext, aCont, aBrk, aAsg, aCall, aCallX, aMeth, aFld, aSetFld, aFldAug, aAug, aRaise, aMake, aYes, kName, kCons, kNil, kSub, nth, put, wipeD, asT_b, fAdd_i, fAdd_s, fAdd_t, fAdd_l, fSub_i, fLt_i, fLe_i, fGt_i, fGe_i, fMul_i, fMod_i, fFdiv_i, fPow_i, fNeg_i, fEq_i, fEq_s, fEq_b, fNe_i, fNe_s, fNe_b, fIn_s, fNi_s, fIx_t0, fIx_t1, fIx_t2, fIx_l0, fIx_l1, fSl_s, fSl_t, fSl_l, fLen_t, fLen_l, fInt_i, fAbs_i, fMax_i, fMin_i, fTuple_t, fTuple_l, fList_t, fList_l, fRepS_s, seqOf_t, seqOf_l, truD_b, truD_t, truD_l, kTup_t, fIsN_n, fIsi_non_int, fIsi_non_bool, fIsi_non_str, fIsi_non_tuple, fIsi_non_list, fIsi_bl_int, fIsi_bl_bool, fIsi_bl_str, fIsi_bl_tuple, fIsi_bl_list, fIsi_int_int, fIsi_int_bool, fIsi_int_str, fIsi_int_tuple, fIsi_int_list, fIsi_str_int, fIsi_str_bool, fIsi_str_str, fIsi_str_tuple, fIsi_str_list, fIsi_tup_int, fIsi_tup_bool, fIsi_tup_str, fIsi_tup_tuple, fIsi_tup_list, fIsi_lst_int, fIsi_lst_bool, fIsi_lst_str, fIsi_lst_tuple, fIsi_lst_list, isN, fIx_sy0, fIx_sy1, ite_tt, ite_ff]
      rw [if_pos h] at e1
      simp only [if_true, decide_eq_true h, Bool.not_true, Bool.false_eq_true, if_false]
      rw [e1]
      exact ⟨_, rfl, rfl⟩
    · try simp only [aSeq, aSet, aC, aVar, aOp, aTest, aTru, aAnd, aOr, aNot, aAndV, aOrV, aNotV, aIfE, aNil, aCons, aTup, aLst, aLstB, aUn, aCa, aSl, aNo, aPart, aM, aML, aRet, aRetN, aIf, aDo, aNext, aCont, aBrk, aAsg, aCall, aCallX, aMeth, aFld, aSetFld, aFldAug, aAug, aRaise, aMake, aYes, kName, kCons, kNil, kSub, nth, put, wipeD, asT_b, fAdd_i, fAdd_s, fAdd_t, fAdd_l, fSub_i, fLt_i, fLe_i, fGt_i, fGe_i, fMul_i, fMod_i, fFdiv_i, fPow_i, fNeg_i, fEq_i, fEq_s, fEq_b, fNe_i, fNe_s, fNe_b, fIn_s, fNi_s, fIx_t0, fIx_t1, fIx_t2, fIx_l0, fIx_l1, fSl_s, fSl_t, fSl_l, fLen_t, fLen_l, fInt_i, fAbs_i, fMax_i, fMin_i, fTuple_t, fTuple_l, fList_t, fList_l, fRepS_s, seqOf_t, seqOf_l, truD_b, truD_t, truD_l, kTup_t, fIsN_n, fIsi_non_int, fIsi_non_bool, fIsi_non_str, fIsi_non_tuple, fIsi_non_list, fIsi_bl_int, fIsi_bl_bool, fIsi_bl_str, fIsi_bl_tuple, fIsi_bl_list, fIsi_int_int, fIsi_int_bool, fIsi_int_str, fIsi_int_tuple, fIsi_int_list, fIsi_str_int, fIsi_str_bool, fIsi_str_str, fIsi_str_tuple, fIsi_str_list, fIsi_tup_int, fIsi_tup_bool, fIsi_tup_str, fIsi_tup_tuple, fIsi_tup_list, fIsi_lst_int, fIsi_lst_bool, fIsi_lst_str, fIsi_lst_tuple, fIsi_lst_list, isN, fIx_sy0, fIx_sy1, ite_tt, ite_ff]
      rw [if_neg h] at e1
      simp only [if_true, decide_eq_false h, Bool.not_false]
      try simp only [aSeq, aSet, aC, aVar, aOp, aTest, aTru, aAnd, aOr, aNot, aAndV, aOrV, aNotV, aIfE, aNil, aCons, aTup, aLst, aLstB, aUn, aCa, aSl, aNo, aPart, aM, aML, aRet, aRetN, aIf, aDo, aNext, aCont, aBrk, aAsg, aCall, aCallX, aMeth, aFld, aSetFld, aFldAug, aAug, aRaise, aMake, aYes, kName, kCons, kNil, kSub, nth, put, wipeD, asT_b, fAdd_i, fAdd_s, fAdd_t, fAdd_l, fSub_i, fLt_i, fLe_i, fGt_i, fGe_i, fMul_i, fMod_i, fFdiv_i, fPow_i, fNeg_i, fEq_i, fEq_s, fEq_b, fNe_i, fNe_s, fNe_b, fIn_s, fNi_s, fIx_t0, fIx_t1, fIx_t2, fIx_l0, fIx_l1, fSl_s, fSl_t, fSl_l, fLen_t, fLen_l, fInt_i, fAbs_i, fMax_i, fMin_i, fTuple_t, fTuple_l, fList_t, fList_l, fRepS_s, seqOf_t, seqOf_l, truD_b, truD_t, truD_l, kTup_t, fIsN_n, fIsi_non_int, fIsi_non_bool, fIsi_non_str, fIsi_non_tuple, fIsi_non_list, fIsi_bl_int, fIsi_bl_bool, fIsi_bl_str, fIsi_bl_tuple, fIsi_bl_list, fIsi_int_int, fIsi_int_bool, fIsi_int_str, fIsi_int_tuple, fIsi_int_list, fIsi_str_int, fIsi_str_bool, fIsi_str_str, fIsi_str_tuple, fIsi_str_list, fIsi_tup_int, fIsi_tup_bool, fIsi_tup_str, fIsi_tup_tuple, fIsi_tup_list, fIsi_lst_int, fIsi_lst_bool, fIsi_lst_str, fIsi_lst_tuple, fIsi_lst_list, isN, fIx_sy0, fIx_sy1, ite_tt, ite_ff, isL_b mset_same, fApp_b mset_same, true_and]
      try simp only [Bool.not_false, if_true]
      refine ⟨by rw [List.length_map]; omega, _, rfl, ?_⟩
      rw [mset_mset, e1, List.map_append]
      rfl
  · rintro g m' ⟨a, rfl, rfl⟩
    rw [List.length_map, List.take_length]
    have hch := srt_chain rows
    have hq := hq _ hch
    have hperm := srt_perm (dd rows)
    have hnd := dd_nodup rows
    have hll := dd_len rows
    have hgo : ∀ r ∈ dd rows, goodR r ∧ r.length ≤ 600 := fun r hr => hg r (dd_mem.mp hr)
    have hasc := hch.asc
    generalize srt (dd rows) = ch at *
    generalize dd rows = once at *
    have hcl : ch.length = once.length := hperm.length_eq
    have hcn : ch.Nodup := hperm.nodup_iff.mpr hnd
    try simp only [aSeq, aSet, aC, aVar, aOp, aTest, aTru, aAnd, aOr, aNot, aAndV, aOrV, aNotV, aIfE, aNil, aCons, aTup, aLst, aLstB, aUn, aCa, aSl, aNo, aPart, aM, aML, aRet, aRetN, aIf, aDo, aNext, aCont, aBrk, aAsg, aCall, aCallX, aMeth, aFld, aSetFld, aFldAug, aAug, aRaise, aMake, aYes, kName, kCons, kNil, kSub, nth, put, wipeD, asT_b, fAdd_i, fAdd_s, fAdd_t, fAdd_l, fSub_i, fLt_i, fLe_i, fGt_i, fGe_i, fMul_i, fMod_i, fFdiv_i, fPow_i, fNeg_i, fEq_i, fEq_s, fEq_b, fNe_i, fNe_s, fNe_b, fIn_s, fNi_s, fIx_t0, fIx_t1, fIx_t2, fIx_l0, fIx_l1, fSl_s, fSl_t, fSl_l, fLen_t, fLen_l, fInt_i, fAbs_i, fMax_i, fMin_i, fTuple_t, fTuple_l, fList_t, fList_l, fRepS_s, seqOf_t, seqOf_l, truD_b, truD_t, truD_l, kTup_t, fIsN_n, fIsi_non_int, fIsi_non_bool, fIsi_non_str, fIsi_non_tuple, fIsi_non_list, fIsi_bl_int, fIsi_bl_bool, fIsi_bl_str, fIsi_bl_tuple, fIsi_bl_list, fIsi_int_int, fIsi_int_bool, fIsi_int_str, fIsi_int_tuple, fIsi_int_list, fIsi_str_int, fIsi_str_bool, fIsi_str_str, fIsi_str_tuple, fIsi_str_list, fIsi_tup_int, fIsi_tup_bool, fIsi_tup_str, fIsi_tup_tuple, fIsi_tup_list, fIsi_lst_int, fIsi_lst_bool, fIsi_lst_str, fIsi_lst_tuple, fIsi_lst_list, isN, fIx_sy0, fIx_sy1, ite_tt, ite_ff, aLc]
    refine ⟨once.map rowD, by simp only [seqOf, mset_same], fun q hqn => ?_⟩
    have nqp : q ≠ p := fun z => by
      rw [z, mset_same] at hqn
      cases hqn
    have sp : ∀ o, (mset (mset m p (.lst (once.map rowD))) q o) p = some (.lst (once.map rowD)) := fun o => by rw [mset_ne nqp.symm, mset_same]
    refine lc_pure (fun i => some .non) (by rw [List.length_map]; omega) (fun acc => by simp only [seqOf, sp]) (fun i acc hi h => ?_) ?_
    · try simp only [aSeq, aSet, aC, aVar, aOp, aTest, aTru, aAnd, aOr, aNot, aAndV, aOrV, aNotV, aIfE, aNil, aCons, aTup, aLst, aLstB, aUn, aCa, aSl, aNo, aPart, aM, aML, aRet, aRetN, aIf, aDo, aNext, aCont, aBrk, aAsg, aCall, aCallX, aMeth, aFld, aSetFld, aFldAug, aAug, aRaise, aMake, aYes, kName, kCons, kNil, kSub, nth, put, wipeD, asT_b, fAdd_i, fAdd_s, fAdd_t, fAdd_l, fSub_i, fLt_i, fLe_i, fGt_i, fGe_i, fMul_i, fMod_i, fFdiv_i, fPow_i, fNeg_i, fEq_i, fEq_s, fEq_b, fNe_i, fNe_s, fNe_b, fIn_s, fNi_s, fIx_t0, fIx_t1, fIx_t2, fIx_l0, fIx_l1, fSl_s, fSl_t, fSl_l, fLen_t, fLen_l, fInt_i, fAbs_i, fMax_i, fMin_i, fTuple_t, fTuple_l, fList_t, fList_l, fRepS_s, seqOf_t, seqOf_l, truD_b, truD_t, truD_l, kTup_t, fIsN_n, fIsi_non_int, fIsi_non_bool, fIsi_non_str, fIsi_non_tuple, fIsi_non_list, fIsi_bl_int, fIsi_bl_bool, fIsi_bl_str, fIsi_bl_tuple, fIsi_bl_list, fIsi_int_int, fIsi_int_bool, fIsi_int_str, fIsi_int_tuple, fIsi_int_list, fIsi_str_int, fIsi_str_bool, fIsi_str_str, fIsi_str_tuple, fIsi_str_list, fIsi_tup_int, fIsi_tup_bool, fIsi_tup_str, fIsi_tup_tuple, fIsi_tup_list, fIsi_lst_int, fIsi_lst_bool, fIsi_lst_str, fIsi_lst_tuple, fIsi_lst_list, isN, fIx_sy0, fIx_sy1, ite_tt, ite_ff]
      try rw [if_pos trivial]
      exact pvF_yes h rfl
    · try rw [if_neg (by decide)]
      have ef : (List.range (once.map rowD).length).filterMap (fun i => some D.non) = fillR [] ch := by
        unfold fillR
        rw [List.length_map, ← hcl]
        exact fm_map fun i a _ => by simp
      rw [ef]
      try simp only [aSeq, aSet, aC, aVar, aOp, aTest, aTru, aAnd, aOr, aNot, aAndV, aOrV, aNotV, aIfE, aNil, aCons, aTup, aLst, aLstB, aUn, aCa, aSl, aNo, aPart, aM, aML, aRet, aRetN, aIf, aDo, aNext, aCont, aBrk, aAsg, aCall, aCallX, aMeth, aFld, aSetFld, aFldAug, aAug, aRaise, aMake, aYes, kName, kCons, kNil, kSub, nth, put, wipeD, asT_b, fAdd_i, fAdd_s, fAdd_t, fAdd_l, fSub_i, fLt_i, fLe_i, fGt_i, fGe_i, fMul_i, fMod_i, fFdiv_i, fPow_i, fNeg_i, fEq_i, fEq_s, fEq_b, fNe_i, fNe_s, fNe_b, fIn_s, fNi_s, fIx_t0, fIx_t1, fIx_t2, fIx_l0, fIx_l1, fSl_s, fSl_t, fSl_l, fLen_t, fLen_l, fInt_i, fAbs_i, fMax_i, fMin_i, fTuple_t, fTuple_l, fList_t, fList_l, fRepS_s, seqOf_t, seqOf_l, truD_b, truD_t, truD_l, kTup_t, fIsN_n, fIsi_non_int, fIsi_non_bool, fIsi_non_str, fIsi_non_tuple, fIsi_non_list, fIsi_bl_int, fIsi_bl_bool, fIsi_bl_str, fIsi_bl_tuple, fIsi_bl_list, fIsi_int_int, fIsi_int_bool, fIsi_int_str, fIsi_int_tuple, fIsi_int_list, fIsi_str_int, fIsi_str_bool, fIsi_str_str, fIsi_str_tuple, fIsi_str_list, fIsi_tup_int, fIsi_tup_bool, fIsi_tup_str, fIsi_tup_tuple, fIsi_tup_list, fIsi_lst_int, fIsi_lst_bool, fIsi_lst_str, fIsi_lst_tuple, fIsi_lst_list, isN, fIx_sy0, fIx_sy1, ite_tt, ite_ff, aFor]
      refine ⟨once.map rowD, by simp only [seqOf, sp], fun i g m' => ∃ a, g = [some (.lst (rows.map rowD)), some (.box p), a, some (.box q), none] ∧ m' = mset (mset m p (.lst (once.map rowD))) q (.lst (fillR (once.take i) ch)), ⟨_, rfl, rfl⟩, fun i g m' _ h => by
        obtain ⟨_, _, rfl⟩ := h
        simp only [seqOf, sp], ?_, ?_⟩
      · rintro i x g m' hx ⟨a, rfl, rfl⟩
        have hi : i < once.length := by
          have := (List.getElem?_eq_some_iff.mp hx).1
          simpa using this
        have ex : x = rowD once[i] := by
          rw [List.getElem?_map, List.getElem?_eq_getElem hi] at hx
          cases hx
          rfl
        subst ex
        have e1 : once.take (i + 1) = once.take i ++ [once[i]] := by
          rw [List.take_succ, List.getElem?_eq_getElem hi]
          rfl
        have hrm : once[i] ∈ once := List.getElem_mem hi
        generalize once[i] = r at *
        obtain ⟨j, hj⟩ := List.getElem?_of_mem (hperm.mem_iff.mpr hrm)
        have hjl : j < ch.length := (List.getElem?_eq_some_iff.mp hj).1
        have rank : (once.filter fun y => ahead y r).length = j := by
          rw [← rank_at hasc hj]
          exact (hperm.filter _).length_eq.symm
        have hgr := hgo r hrm
        generalize once.take i = done at *
        try simp only [aSeq, aSet, aC, aVar, aOp, aTest, aTru, aAnd, aOr, aNot, aAndV, aOrV, aNotV, aIfE, aNil, aCons, aTup, aLst, aLstB, aUn, aCa, aSl, aNo, aPart, aM, aML, aRet, aRetN, aIf, aDo, aNext, aCont, aBrk, aAsg, aCall, aCallX, aMeth, aFld, aSetFld, aFldAug, aAug, aRaise, aMake, aYes, kName, kCons, kNil, kSub, nth, put, wipeD, asT_b, fAdd_i, fAdd_s, fAdd_t, fAdd_l, fSub_i, fLt_i, fLe_i, fGt_i, fGe_i, fMul_i, fMod_i, fFdiv_i, fPow_i, fNeg_i, fEq_i, fEq_s, fEq_b, fNe_i, fNe_s, fNe_b, fIn_s, fNi_s, fIx_t0, fIx_t1, fIx_t2, fIx_l0, fIx_l1, fSl_s, fSl_t, fSl_l, fLen_t, fLen_l, fInt_i, fAbs_i, fMax_i, fMin_i, fTuple_t, fTuple_l, fList_t, fList_l, fRepS_s, seqOf_t, seqOf_l, truD_b, truD_t, truD_l, kTup_t, fIsN_n, fIsi_non_int, fIsi_non_bool, fIsi_non_str, fIsi_non_tuple, fIsi_non_list, fIsi_bl_int, fIsi_bl_bool, fIsi_bl_str, fIsi_bl_tuple, fIsi_bl_list, fIsi_int_int, fIsi_int_bool, fIsi_int_str, fIsi_int_tuple, fIsi_int_list, fIsi_str_int, fIsi_str_bool, fIsi_str_str, fIsi_str_tuple, fIsi_str_list, fIsi_tup_int, fIsi_tup_bool, fIsi_tup_str, fIsi_tup_tuple, fIsi_tup_list, fIsi_lst_int, fIsi_lst_bool, fIsi_lst_str, fIsi_lst_tuple, fIsi_lst_list, isN, fIx_sy0, fIx_sy1, ite_tt, ite_ff, aLc]
        refine ⟨once.map rowD, by simp only [seqOf, sp], fun z hz => ?_⟩
        have nzp : z ≠ p := fun e => by
          rw [e, sp] at hz
          cases hz
        refine lc_pure (fun i => (once[i]?).bind fun y => if ahead y r = true then some (rowD y) else none) (by rw [List.length_map]; omega) (fun acc => by simp only [seqOf, mset_ne nzp.symm, sp]) (fun i acc hi h => ?_) ?_
        · have hi : i < once.length := by simpa using hi
          have e : (once.map rowD).getD i .non = rowD once[i] := by simp [hi]
          rw [e]
          have ei : once[i]? = some once[i] := List.getElem?_eq_getElem hi
          have hgi := hgo _ (List.getElem_mem hi)
          try simp only [aSeq, aSet, aC, aVar, aOp, aTest, aTru, aAnd, aOr, aNot, aAndV, aOrV, aNotV, aIfE, aNil, aCons, aTup, aLst, aLstB, aUn, aCa, aSl, aNo, aPart, aM, aML, aRet, aRetN, aIf, aDo, aNext, aCont, aBrk, aAsg, aCall, aCallX, aMeth, aFld, aSetFld, aFldAug, aAug, aRaise, aMake, aYes, kName, kCons, kNil, kSub, nth, put, wipeD, asT_b, fAdd_i, fAdd_s, fAdd_t, fAdd_l, fSub_i, fLt_i, fLe_i, fGt_i, fGe_i, fMul_i, fMod_i, fFdiv_i, fPow_i, fNeg_i, fEq_i, fEq_s, fEq_b, fNe_i, fNe_s, fNe_b, fIn_s, fNi_s, fIx_t0, fIx_t1, fIx_t2, fIx_l0, fIx_l1, fSl_s, fSl_t, fSl_l, fLen_t, fLen_l, fInt_i, fAbs_i, fMax_i, fMin_i, fTuple_t, fTuple_l, fList_t, fList_l, fRepS_s, seqOf_t, seqOf_l, truD_b, truD_t, truD_l, kTup_t, fIsN_n, fIsi_non_int, fIsi_non_bool, fIsi_non_str, fIsi_non_tuple, fIsi_non_list, fIsi_bl_int, fIsi_bl_bool, fIsi_bl_str, fIsi_bl_tuple, fIsi_bl_list, fIsi_int_int, fIsi_int_bool, fIsi_int_str, fIsi_int_tuple, fIsi_int_list, fIsi_str_int, fIsi_str_bool, fIsi_str_str, fIsi_str_tuple, fIsi_str_list, fIsi_tup_int, fIsi_tup_bool, fIsi_tup_str, fIsi_tup_tuple, fIsi_tup_list, fIsi_lst_int, fIsi_lst_bool, fIsi_lst_str, fIsi_lst_tuple, fIsi_lst_list, isN, fIx_sy0, fIx_sy1, ite_tt, ite_ff]
          refine ⟨once[i], r, rfl, small_of hgi.1 hgi.2, small_of hgr.1 hgr.2, ?_⟩
          try simp only [aSeq, aSet, aC, aVar, aOp, aTest, aTru, aAnd, aOr, aNot, aAndV, aOrV, aNotV, aIfE, aNil, aCons, aTup, aLst, aLstB, aUn, aCa, aSl, aNo, aPart, aM, aML, aRet, aRetN, aIf, aDo, aNext, aCont, aBrk, aAsg, aCall, aCallX, aMeth, aFld, aSetFld, aFldAug, aAug, aRaise, aMake, aYes, kName, kCons, kNil, kSub, nth, put, wipeD, asT_b, fAdd_i, fAdd_s, fAdd_t, fAdd_l, fSub_i, fLt_i, fLe_i, fGt_i, fGe_i, fMul_i, fMod_i, fFdiv_i, fPow_i, fNeg_i, fEq_i, fEq_s, fEq_b, fNe_i, fNe_s, fNe_b, fIn_s, fNi_s, fIx_t0, fIx_t1, fIx_t2, fIx_l0, fIx_l1, fSl_s, fSl_t, fSl_l, fLen_t, fLen_l, fInt_i, fAbs_i, fMax_i, fMin_i, fTuple_t, fTuple_l, fList_t, fList_l, fRepS_s, seqOf_t, seqOf_l, truD_b, truD_t, truD_l, kTup_t, fIsN_n, fIsi_non_int, fIsi_non_bool, fIsi_non_str, fIsi_non_tuple, fIsi_non_list, fIsi_bl_int, fIsi_bl_bool, fIsi_bl_str, fIsi_bl_tuple, fIsi_bl_list, fIsi_int_int, fIsi_int_bool, fIsi_int_str, fIsi_int_tuple, fIsi_int_list, fIsi_str_int, fIsi_str_bool, fIsi_str_str, fIsi_str_tuple, fIsi_str_list, fIsi_tup_int, fIsi_tup_bool, fIsi_tup_str, fIsi_tup_tuple, fIsi_tup_list, fIsi_lst_int, fIsi_lst_bool, fIsi_lst_str, fIsi_lst_tuple, fIsi_lst_list, isN, fIx_sy0, fIx_sy1, ite_tt, ite_ff]
          cases e2 : ahead once[i] r with
          | true =>
            rw [if_pos rfl]
            exact pvF_yes h (by rw [ei]; exact if_pos e2)
          | false =>
            rw [if_neg (by decide)]
            exact pvF_no h (by rw [ei]; exact if_neg (by rw [e2]; decide))
        · have ef : (List.range (once.map rowD).length).filterMap (fun i => (once[i]?).bind fun y => if ahead y r = true then some (rowD y) else none) = (once.filter fun y => ahead y r).map rowD := by
            rw [List.length_map]
            exact fm_filter (fun y => ahead y r) rowD (h := fun y => if ahead y r = true then some (rowD y) else none) (fun _ => rfl) once
          rw [ef, if_pos trivial, mdel_mset hz]
          try simp only [aSeq, aSet, aC, aVar, aOp, aTest, aTru, aAnd, aOr, aNot, aAndV, aOrV, aNotV, aIfE, aNil, aCons, aTup, aLst, aLstB, aUn, aCa, aSl, aNo, aPart, aM, aML, aRet, aRetN, aIf, aDo, aNext, aCont, aBrk, aAsg, aCall, aCallX, aMeth, aFld, aSetFld, aFldAug, aAug, aRaise, aMake, aYes, kName, kCons, kNil, kSub, nth, put, wipeD, asT_b, fAdd_i, fAdd_s, fAdd_t, fAdd_l, fSub_i, fLt_i, fLe_i, fGt_i, fGe_i, fMul_i, fMod_i, fFdiv_i, fPow_i, fNeg_i, fEq_i, fEq_s, fEq_b, fNe_i, fNe_s, fNe_b, fIn_s, fNi_s, fIx_t0, fIx_t1, fIx_t2, fIx_l0, fIx_l1, fSl_s, fSl_t, fSl_l, fLen_t, fLen_l, fInt_i, fAbs_i, fMax_i, fMin_i, fTuple_t, fTuple_l, fList_t, fList_l, fRepS_s, seqOf_t, seqOf_l, truD_b, truD_t, truD_l, kTup_t, fIsN_n, fIsi_non_int, fIsi_non_bool, fIsi_non_str, fIsi_non_tuple, fIsi_non_list, fIsi_bl_int, fIsi_bl_bool, fIsi_bl_str, fIsi_bl_tuple, fIsi_bl_list, fIsi_int_int, fIsi_int_bool, fIsi_int_str, fIsi_int_tuple, fIsi_int_list, fIsi_str_int, fIsi_str_bool, fIsi_str_str, fIsi_str_tuple, fIsi_str_list, fIsi_tup_int, fIsi_tup_bool, fIsi_tup_str, fIsi_tup_tuple, fIsi_tup_list, fIsi_lst_int, fIsi_lst_bool, fIsi_lst_str, fIsi_lst_tuple, fIsi_lst_list, isN, fIx_sy0, fIx_sy1, ite_tt, ite_ff]
          rw [List.length_map, rank]
          have hfl : (fillR done ch).length = ch.length := by
            unfold fillR
            rw [List.length_map]
          have hk : ixN (fillR done ch).length (j : Int) = some j := by
            unfold ixN
            rw [hfl, if_pos (by omega), if_pos (by omega)]
            rfl
          rw [fSetIx_b mset_same hk, mset_mset, fill_set hcn hj]
          rw [e1]
          exact ⟨_, rfl, rfl⟩
      · rintro g m' ⟨a, rfl, rfl⟩
        rw [List.length_map, List.take_length]
        try simp only [aSeq, aSet, aC, aVar, aOp, aTest, aTru, aAnd, aOr, aNot, aAndV, aOrV, aNotV, aIfE, aNil, aCons, aTup, aLst, aLstB, aUn, aCa, aSl, aNo, aPart, aM, aML, aRet, aRetN, aIf, aDo, aNext, aCont, aBrk, aAsg, aCall, aCallX, aMeth, aFld, aSetFld, aFldAug, aAug, aRaise, aMake, aYes, kName, kCons, kNil, kSub, nth, put, wipeD, asT_b, fAdd_i, fAdd_s, fAdd_t, fAdd_l, fSub_i, fLt_i, fLe_i, fGt_i, fGe_i, fMul_i, fMod_i, fFdiv_i, fPow_i, fNeg_i, fEq_i, fEq_s, fEq_b, fNe_i, fNe_s, fNe_b, fIn_s, fNi_s, fIx_t0, fIx_t1, fIx_t2, fIx_l0, fIx_l1, fSl_s, fSl_t, fSl_l, fLen_t, fLen_l, fInt_i, fAbs_i, fMax_i, fMin_i, fTuple_t, fTuple_l, fList_t, fList_l, fRepS_s, seqOf_t, seqOf_l, truD_b, truD_t, truD_l, kTup_t, fIsN_n, fIsi_non_int, fIsi_non_bool, fIsi_non_str, fIsi_non_tuple, fIsi_non_list, fIsi_bl_int, fIsi_bl_bool, fIsi_bl_str, fIsi_bl_tuple, fIsi_bl_list, fIsi_int_int, fIsi_int_bool, fIsi_int_str, fIsi_int_tuple, fIsi_int_list, fIsi_str_int, fIsi_str_bool, fIsi_str_str, fIsi_str_tuple, fIsi_str_list, fIsi_tup_int, fIsi_tup_bool, fIsi_tup_str, fIsi_tup_tuple, fIsi_tup_list, fIsi_lst_int, fIsi_lst_bool, fIsi_lst_str, fIsi_lst_tuple, fIsi_lst_list, isN, fIx_sy0, fIx_sy1, ite_tt, ite_ff, fTuple_b mset_same]
        have e : fillR once ch = ch.map rowD := by
          unfold fillR
          exact List.map_congr_left fun x hx => if_pos (hperm.mem_iff.mp hx)
        rw [e]
        refine ⟨_, _, (Fz.drop q).trans (Fz.drop p), ?_⟩
        rw [mdel_mset hqn, mdel_mset hp]
        exact hq
end AL
set_option maxHeartbeats 4000000
namespace AL
open PySem L2 Evl
variable {K : PySem.W.Frag}
/-! ### what is no tree -/
theorem otherE_word : otherE.lookup ("word" : Str) = some (.str "other") := rfl
theorem otherE_at : otherE.lookup ("at" : Str) = some (.int (-1)) := rfl
def refO : D := .tup [.str "raised", .bl true, .str "other", .int (-1)]
def sp_law_asks : ASp := fun ds m P _ => ∃ (r : Rw) (d : D), ds = [rowD r, d] ∧ fitT d = true ∧ treeB d = false ∧ P refO m
theorem rd_law_asks {CN CU : Addr} : ∀ ds m Q W, sp_law_asks ds m Q W → b_law_asks K CN CU (sp_is_ahead CN) W { nx := fun _ m' => fzE K Q .non m', rt := fzE K Q } (ds.map some ++ List.replicate (N_law_asks.length - ds.length) none) m := by
  have onl : ∀ p, onlyE N_law_asks.length 2 p = [none, none, some (.box p)] := fun _ => rfl
  rintro ds m Q W ⟨r, d, rfl, hf, ht, hq⟩
  change b_law_asks K CN CU _ W _ [some (rowD r), some d, none] m
  unfold b_law_asks aTry
  simp only [aSeq, aSet, aC, aVar, aOp, aTest, aTru, aAnd, aOr, aNot, aAndV, aOrV, aNotV, aIfE, aNil, aCons, aTup, aLst, aLstB, aUn, aCa, aSl, aNo, aPart, aM, aML, aRet, aRetN, aIf, aDo, aNext, aCont, aBrk, aAsg, aCall, aCallX, aMeth, aFld, aSetFld, aFldAug, aAug, aRaise, aMake, aYes, kName, kCons, kNil, kSub, nth, put, wipeD, asT_b, fAdd_i, fAdd_s, fAdd_t, fAdd_l, fSub_i, fLt_i, fLe_i, fGt_i, fGe_i, fMul_i, fMod_i, fFdiv_i, fPow_i, fNeg_i, fEq_i, fEq_s, fEq_b, fNe_i, fNe_s, fNe_b, fIn_s, fNi_s, fIx_t0, fIx_t1, fIx_t2, fIx_l0, fIx_l1, fSl_s, fSl_t, fSl_l, fLen_t, fLen_l, fInt_i, fAbs_i, fMax_i, fMin_i, fTuple_t, fTuple_l, fList_t, fList_l, fRepS_s, seqOf_t, seqOf_l, truD_b, truD_t, truD_l, kTup_t, fIsN_n, fIsi_non_int, fIsi_non_bool, fIsi_non_str, fIsi_non_tuple, fIsi_non_list, fIsi_bl_int, fIsi_bl_bool, fIsi_bl_str, fIsi_bl_tuple, fIsi_bl_list, fIsi_int_int, fIsi_int_bool, fIsi_int_str, fIsi_int_tuple, fIsi_int_list, fIsi_str_int, fIsi_str_bool, fIsi_str_str, fIsi_str_tuple, fIsi_str_list, fIsi_tup_int, fIsi_tup_bool, fIsi_tup_str, fIsi_tup_tuple, fIsi_tup_list, fIsi_lst_int, fIsi_lst_bool, fIsi_lst_str, fIsi_lst_tuple, fIsi_lst_list, isN, fIx_sy0, fIx_sy1, ite_tt, ite_ff]
  refine .inr ⟨r, d, rfl, hf, ht, .inl ⟨rfl, fun p => ?_⟩⟩
  rw [onl]
  simp only [aSeq, aSet, aC, aVar, aOp, aTest, aTru, aAnd, aOr, aNot, aAndV, aOrV, aNotV, aIfE, aNil, aCons, aTup, aLst, aLstB, aUn, aCa, aSl, aNo, aPart, aM, aML, aRet, aRetN, aIf, aDo, aNext, aCont, aBrk, aAsg, aCall, aCallX, aMeth, aFld, aSetFld, aFldAug, aAug, aRaise, aMake, aYes, kName, kCons, kNil, kSub, nth, put, wipeD, asT_b, fAdd_i, fAdd_s, fAdd_t, fAdd_l, fSub_i, fLt_i, fLe_i, fGt_i, fGe_i, fMul_i, fMod_i, fFdiv_i, fPow_i, fNeg_i, fEq_i, fEq_s, fEq_b, fNe_i, fNe_s, fNe_b, fIn_s, fNi_s, fIx_t0, fIx_t1, fIx_t2, fIx_l0, fIx_l1, fSl_s, fSl_t, fSl_l, fLen_t, fLen_l, fInt_i, fAbs_i, fMax_i, fMin_i, fTuple_t, fTuple_l, fList_t, fList_l, fRepS_s, seqOf_t, seqOf_l, truD_b, truD_t, truD_l, kTup_t, fIsN_n, fIsi_non_int, fIsi_non_bool, fIsi_non_str, fIsi_non_tuple, fIsi_non_list, fIsi_bl_int, fIsi_bl_bool, fIsi_bl_str, fIsi_bl_tuple, fIsi_bl_list, fIsi_int_int, fIsi_int_bool, fIsi_int_str, fIsi_int_tuple, fIsi_int_list, fIsi_str_int, fIsi_str_bool, fIsi_str_str, fIsi_str_tuple, fIsi_str_list, fIsi_tup_int, fIsi_tup_bool, fIsi_tup_str, fIsi_tup_tuple, fIsi_tup_list, fIsi_lst_int, fIsi_lst_bool, fIsi_lst_str, fIsi_lst_tuple, fIsi_lst_list, isN, fIx_sy0, fIx_sy1, ite_tt, ite_ff, aXf, fIsX, otherE_word, otherE_at, true_and]
  exact ⟨(by decide : 4 ≤ 100000), fzE.of hq⟩
def oddL (r : Rw) : List D := [.non, .tup [], .lst (r.map syD), rowD (r ++ r), rowD r.dropLast, .tup [.tup [.str "?", .int 0]], .tup [.str "a", .int 0], .int 0, .str "a", .tup [.tup [.str "a", .bl false]], .tup [rowD r], .bl true,
  .tup (r.map syD ++ [.non]), .tup [.tup [.str "a", .int 5]], .tup [.tup [.str ".", .int 1], .tup [.str "a", .int 0]], .tup [.tup [.str "A", .int 0]], .tup [.tup [.str "_", .int 0]]]
theorem flt_app : ∀ (r : List Sy) (t : List D) (k n j : Nat), (∀ s ∈ r, goodSy s) → run r n = some j → flt (r.map syD ++ t) k (n : Int) = flt t (k + r.length) (j : Int)
  | [], t, k, n, j, _, h => by
    cases h
    rfl
  | s :: r, t, k, 0, j, _, h => by cases h
  | s :: r, t, k, n + 1, j, hg, h => by
    obtain ⟨h1, _, h3⟩ := sym_good (hg s List.mem_cons_self)
    have e : flt ((s :: r).map syD ++ t) k ((n + 1 : Nat) : Int) = flt (r.map syD ++ t) (k + 1) ((n + s.n : Nat) : Int) := by
      show (if ((n + 1 : Nat) : Int) = 0 then _ else if isSymD (syD s) = true then flt (r.map syD ++ t) (k + 1) (((n + 1 : Nat) : Int) + (nOf (syD s) - 1)) else _) = _
      rw [if_neg (by omega), if_pos h1, h3]
      congr 1
      omega
    rw [e, flt_app r t (k + 1) (n + s.n) j (fun x hx => hg x (List.mem_cons_of_mem _ hx)) h, List.length_cons]
    congr 1
    omega
theorem faultD_ne {es : List D} (h : es ≠ []) : faultD (.tup es) = flt es 0 1 := by
  cases es with
  | nil => exact absurd rfl h
  | cons => rfl
theorem fitE_tup (es : List D) (h : ∀ x ∈ es, top? x = true ∧ fitD x = true) : fitE (.tup es) = true := by
  unfold fitE
  split
  · rename_i w n e
    cases e
    rw [(h w (by simp)).2, (h n (by simp)).1]
    rfl
  · rename_i d hd
    rfl
theorem odd_ok {r : Rw} (h : Tree r) (hl : r.length ≤ 100) : ∀ d ∈ oddL r, fitT d = true ∧ treeB d = false := by
  have hpos := whole_pos h.wh
  intro d hd
  simp only [oddL, List.mem_cons, List.not_mem_nil, or_false] at hd
  rcases hd with rfl | rfl | rfl | rfl | rfl | rfl | rfl | rfl | rfl | rfl | rfl | rfl | rfl | rfl | rfl | rfl | rfl
  · exact ⟨rfl, rfl⟩
  · exact ⟨rfl, rfl⟩
  · exact ⟨rfl, rfl⟩
  · have g : goodR (r ++ r) := fun s hs => (List.mem_append.mp hs).elim (h.good s) (h.good s)
    refine ⟨fit_row g (by rw [List.length_append]; omega), ?_⟩
    rw [treeB_row g, decide_eq_false]
    intro z
    have z : run (r ++ r) 1 = some 0 := z
    rw [run_app, show run r 1 = some 0 from h.wh] at z
    have z : run r 0 = some 0 := z
    cases r with
    | nil => simp at hpos
    | cons => cases z
  · have g : goodR r.dropLast := fun s hs => by
      rw [List.dropLast_eq_take] at hs
      exact h.good s (List.mem_of_mem_take hs)
    refine ⟨fit_row g (by rw [List.length_dropLast]; omega), ?_⟩
    rw [treeB_row g, decide_eq_false]
    intro z
    obtain ⟨k, hk⟩ := run_take r 1 (r.length - 1) h.wh (by omega)
    rw [← List.dropLast_eq_take] at hk
    have z : run r.dropLast 1 = some 0 := z
    rw [hk] at z
    cases z
  · exact ⟨by rfl, by rfl⟩
  · exact ⟨by rfl, by rfl⟩
  · exact ⟨by rfl, by rfl⟩
  · exact ⟨by rfl, by rfl⟩
  · exact ⟨by rfl, by rfl⟩
  · refine ⟨?_, ?_⟩
    · show (decide (1 ≤ 1000) && ([rowD r].all fitE)) = true
      have e : fitE (rowD r) = true := fitE_tup _ fun x hx => by
        obtain ⟨s, _, rfl⟩ := List.mem_map.mp hx
        exact ⟨rfl, rfl⟩
      simp [e]
    · have e : isSymD (rowD r) = false := by
        match r with
        | [] => rfl
        | [a] => rfl
        | [a, b] => rfl
        | a :: b :: c :: t => rfl
      have e2 : flt [rowD r] 0 1 = .tup [.str "symbol", .int 0] := by
        show (if (1 : Int) = 0 then D.tup [.str "behind", .int 0] else if isSymD (rowD r) = true then flt [] 1 (1 + (nOf (rowD r) - 1)) else .tup [.str "symbol", .int 0]) = _
        rw [e]
        rfl
      show decide (isN (flt [rowD r] 0 1) = some true) = false
      rw [e2]
      rfl
  · exact ⟨by rfl, by rfl⟩
  · refine ⟨?_, ?_⟩
    · show (decide ((r.map syD ++ [D.non]).length ≤ 1000) && (r.map syD ++ [D.non]).all fitE) = true
      have hr := fit_row h.good (by omega)
      have hr : (decide ((r.map syD).length ≤ 1000) && (r.map syD).all fitE) = true := hr
      rw [Bool.and_eq_true] at hr
      rw [List.all_append, hr.2, decide_eq_true (by rw [List.length_append, List.length_map, List.length_singleton]; omega)]
      rfl
    · unfold treeB
      rw [faultD_ne (by simp), show (1 : Int) = ((1 : Nat) : Int) from rfl, flt_app r [.non] 0 1 0 h.good h.wh]
      rfl
  · exact ⟨by rfl, by rfl⟩
  · exact ⟨by rfl, by rfl⟩
  · exact ⟨by rfl, by rfl⟩
  · exact ⟨by rfl, by rfl⟩
def sp_law_refusals : ASp := fun ds m P _ => ∃ (c s : Addr) (r : Rw), ds = [tapeD c s, rowD r] ∧ TapeIn m c s ∧ Tree r ∧ r.length ≤ 100 ∧ ∀ m', Tp c s m m' → P (.bl true) m'
theorem cut_last {r : Rw} : cutD (r.map syD) none (some (-1)) = r.dropLast.map syD := by
  unfold cutD
  rw [HT.sIx_none]
  have e : HT.sIx (r.map syD).length (r.map syD).length (some (-1)) = r.length - 1 := by
    rw [List.length_map]
    unfold HT.sIx
    simp
    try omega
  rw [e, List.drop_zero, Nat.sub_zero, ← List.map_take, List.dropLast_eq_take]
theorem atL {xs : List D} {i : Int} (h0 : 0 ≤ i) (h1 : i < (xs.length : Int)) : ∃ d, atI xs i = some d ∧ d ∈ xs := by
  have hl : i.toNat < xs.length := by omega
  exact ⟨xs[i.toNat], atI_i (i := i.toNat) (by omega) (List.getElem?_eq_getElem hl), List.getElem_mem hl⟩
theorem rd_law_refusals : ∀ ds m Q W, sp_law_refusals ds m Q W → b_law_refusals sp_law_asks sp_law_pick sp_law_same W { nx := fun _ m' => fzE K Q .non m', rt := fzE K Q } (ds.map some ++ List.replicate (N_law_refusals.length - ds.length) none) m := by
  rintro ds m Q W ⟨c, s, r, rfl, tp, hr, hl, hq⟩
  change b_law_refusals _ _ _ W _ [some (tapeD c s), some (rowD r), none, none, none] m
  unfold b_law_refusals
  have eL : ∀ d ∈ oddL r, fitT d = true ∧ treeB d = false := odd_ok hr hl
  refine cut_plain ?_
  unfold rowD
  try simp only [aSeq, aSet, aC, aVar, aOp, aTest, aTru, aAnd, aOr, aNot, aAndV, aOrV, aNotV, aIfE, aNil, aCons, aTup, aLst, aLstB, aUn, aCa, aSl, aNo, aPart, aM, aML, aRet, aRetN, aIf, aDo, aNext, aCont, aBrk, aAsg, aCall, aCallX, aMeth, aFld, aSetFld, aFldAug, aAug, aRaise, aMake, aYes, kName, kCons, kNil, kSub, nth, put, wipeD, asT_b, fAdd_i, fAdd_s, fAdd_t, fAdd_l, fSub_i, fLt_i, fLe_i, fGt_i, fGe_i, fMul_i, fMod_i, fFdiv_i, fPow_i, fNeg_i, fEq_i, fEq_s, fEq_b, fNe_i, fNe_s, fNe_b, fIn_s, fNi_s, fIx_t0, fIx_t1, fIx_t2, fIx_l0, fIx_l1, fSl_s, fSl_t, fSl_l, fLen_t, fLen_l, fInt_i, fAbs_i, fMax_i, fMin_i, fTuple_t, fTuple_l, fList_t, fList_l, fRepS_s, seqOf_t, seqOf_l, truD_b, truD_t, truD_l, kTup_t, fIsN_n, fIsi_non_int, fIsi_non_bool, fIsi_non_str, fIsi_non_tuple, fIsi_non_list, fIsi_bl_int, fIsi_bl_bool, fIsi_bl_str, fIsi_bl_tuple, fIsi_bl_list, fIsi_int_int, fIsi_int_bool, fIsi_int_str, fIsi_int_tuple, fIsi_int_list, fIsi_str_int, fIsi_str_bool, fIsi_str_str, fIsi_str_tuple, fIsi_str_list, fIsi_tup_int, fIsi_tup_bool, fIsi_tup_str, fIsi_tup_tuple, fIsi_tup_list, fIsi_lst_int, fIsi_lst_bool, fIsi_lst_str, fIsi_lst_tuple, fIsi_lst_list, isN, fIx_sy0, fIx_sy1, ite_tt, ite_ff, cut_last]
  refine ⟨by simp, by rw [List.length_map]; omega, by simp, by simp, by simp, by simp, by simp, by simp, by simp, cut_plain ?_⟩
  try simp only [aSeq, aSet, aC, aVar, aOp, aTest, aTru, aAnd, aOr, aNot, aAndV, aOrV, aNotV, aIfE, aNil, aCons, aTup, aLst, aLstB, aUn, aCa, aSl, aNo, aPart, aM, aML, aRet, aRetN, aIf, aDo, aNext, aCont, aBrk, aAsg, aCall, aCallX, aMeth, aFld, aSetFld, aFldAug, aAug, aRaise, aMake, aYes, kName, kCons, kNil, kSub, nth, put, wipeD, asT_b, fAdd_i, fAdd_s, fAdd_t, fAdd_l, fSub_i, fLt_i, fLe_i, fGt_i, fGe_i, fMul_i, fMod_i, fFdiv_i, fPow_i, fNeg_i, fEq_i, fEq_s, fEq_b, fNe_i, fNe_s, fNe_b, fIn_s, fNi_s, fIx_t0, fIx_t1, fIx_t2, fIx_l0, fIx_l1, fSl_s, fSl_t, fSl_l, fLen_t, fLen_l, fInt_i, fAbs_i, fMax_i, fMin_i, fTuple_t, fTuple_l, fList_t, fList_l, fRepS_s, seqOf_t, seqOf_l, truD_b, truD_t, truD_l, kTup_t, fIsN_n, fIsi_non_int, fIsi_non_bool, fIsi_non_str, fIsi_non_tuple, fIsi_non_list, fIsi_bl_int, fIsi_bl_bool, fIsi_bl_str, fIsi_bl_tuple, fIsi_bl_list, fIsi_int_int, fIsi_int_bool, fIsi_int_str, fIsi_int_tuple, fIsi_int_list, fIsi_str_int, fIsi_str_bool, fIsi_str_str, fIsi_str_tuple, fIsi_str_list, fIsi_tup_int, fIsi_tup_bool, fIsi_tup_str, fIsi_tup_tuple, fIsi_tup_list, fIsi_lst_int, fIsi_lst_bool, fIsi_lst_str, fIsi_lst_tuple, fIsi_lst_list, isN, fIx_sy0, fIx_sy1, ite_tt, ite_ff]
  refine ⟨by simp, by rw [List.length_map]; simp; omega, by simp, by simp, by simp, by simp, by simp, by simp, by simp, by simp, by simp, by simp, by simp, cut_plain ?_⟩
  have eO : ([.non, .tup [], .lst (r.map syD), .tup (r.map syD ++ r.map syD), .tup (r.dropLast.map syD), .tup [.tup [.str "?", .int 0]], .tup [.str "a", .int 0], .int 0, .str "a", .tup [.tup [.str "a", .bl false]], .tup [.tup (r.map syD)], .bl true] : List D) ++
      [.tup (r.map syD ++ [.non]), .tup [.tup [.str "a", .int 5]], .tup [.tup [.str ".", .int 1], .tup [.str "a", .int 0]], .tup [.tup [.str "A", .int 0]], .tup [.tup [.str "_", .int 0]]] = oddL r := by
    unfold oddL rowD
    rw [List.map_append]
    rfl
  rw [eO]
  have eN : (oddL r).length = 17 := rfl
  generalize oddL r = L at *
  try simp only [aSeq, aSet, aC, aVar, aOp, aTest, aTru, aAnd, aOr, aNot, aAndV, aOrV, aNotV, aIfE, aNil, aCons, aTup, aLst, aLstB, aUn, aCa, aSl, aNo, aPart, aM, aML, aRet, aRetN, aIf, aDo, aNext, aCont, aBrk, aAsg, aCall, aCallX, aMeth, aFld, aSetFld, aFldAug, aAug, aRaise, aMake, aYes, kName, kCons, kNil, kSub, nth, put, wipeD, asT_b, fAdd_i, fAdd_s, fAdd_t, fAdd_l, fSub_i, fLt_i, fLe_i, fGt_i, fGe_i, fMul_i, fMod_i, fFdiv_i, fPow_i, fNeg_i, fEq_i, fEq_s, fEq_b, fNe_i, fNe_s, fNe_b, fIn_s, fNi_s, fIx_t0, fIx_t1, fIx_t2, fIx_l0, fIx_l1, fSl_s, fSl_t, fSl_l, fLen_t, fLen_l, fInt_i, fAbs_i, fMax_i, fMin_i, fTuple_t, fTuple_l, fList_t, fList_l, fRepS_s, seqOf_t, seqOf_l, truD_b, truD_t, truD_l, kTup_t, fIsN_n, fIsi_non_int, fIsi_non_bool, fIsi_non_str, fIsi_non_tuple, fIsi_non_list, fIsi_bl_int, fIsi_bl_bool, fIsi_bl_str, fIsi_bl_tuple, fIsi_bl_list, fIsi_int_int, fIsi_int_bool, fIsi_int_str, fIsi_int_tuple, fIsi_int_list, fIsi_str_int, fIsi_str_bool, fIsi_str_str, fIsi_str_tuple, fIsi_str_list, fIsi_tup_int, fIsi_tup_bool, fIsi_tup_str, fIsi_tup_tuple, fIsi_tup_list, fIsi_lst_int, fIsi_lst_bool, fIsi_lst_str, fIsi_lst_tuple, fIsi_lst_list, isN, fIx_sy0, fIx_sy1, ite_tt, ite_ff, aForR]
  refine ⟨0, 3, rfl, fun _ => rfl, by decide, fun i g m' => ∃ x y, g = [some (tapeD c s), some (.tup (r.map syD)), some (.lst L), x, y] ∧ Tp c s m m', ⟨none, none, rfl, Tp.refl tp⟩, ?_, ?_⟩
  · rintro i g m' hi ⟨x, y, rfl, t0⟩
    try simp only [aSeq, aSet, aC, aVar, aOp, aTest, aTru, aAnd, aOr, aNot, aAndV, aOrV, aNotV, aIfE, aNil, aCons, aTup, aLst, aLstB, aUn, aCa, aSl, aNo, aPart, aM, aML, aRet, aRetN, aIf, aDo, aNext, aCont, aBrk, aAsg, aCall, aCallX, aMeth, aFld, aSetFld, aFldAug, aAug, aRaise, aMake, aYes, kName, kCons, kNil, kSub, nth, put, wipeD, asT_b, fAdd_i, fAdd_s, fAdd_t, fAdd_l, fSub_i, fLt_i, fLe_i, fGt_i, fGe_i, fMul_i, fMod_i, fFdiv_i, fPow_i, fNeg_i, fEq_i, fEq_s, fEq_b, fNe_i, fNe_s, fNe_b, fIn_s, fNi_s, fIx_t0, fIx_t1, fIx_t2, fIx_l0, fIx_l1, fSl_s, fSl_t, fSl_l, fLen_t, fLen_l, fInt_i, fAbs_i, fMax_i, fMin_i, fTuple_t, fTuple_l, fList_t, fList_l, fRepS_s, seqOf_t, seqOf_l, truD_b, truD_t, truD_l, kTup_t, fIsN_n, fIsi_non_int, fIsi_non_bool, fIsi_non_str, fIsi_non_tuple, fIsi_non_list, fIsi_bl_int, fIsi_bl_bool, fIsi_bl_str, fIsi_bl_tuple, fIsi_bl_list, fIsi_int_int, fIsi_int_bool, fIsi_int_str, fIsi_int_tuple, fIsi_int_list, fIsi_str_int, fIsi_str_bool, fIsi_str_str, fIsi_str_tuple, fIsi_str_list, fIsi_tup_int, fIsi_tup_bool, fIsi_tup_str, fIsi_tup_tuple, fIsi_tup_list, fIsi_lst_int, fIsi_lst_bool, fIsi_lst_str, fIsi_lst_tuple, fIsi_lst_list, isN, fIx_sy0, fIx_sy1, ite_tt, ite_ff]
    refine cut_plain ?_
    try simp only [aSeq, aSet, aC, aVar, aOp, aTest, aTru, aAnd, aOr, aNot, aAndV, aOrV, aNotV, aIfE, aNil, aCons, aTup, aLst, aLstB, aUn, aCa, aSl, aNo, aPart, aM, aML, aRet, aRetN, aIf, aDo, aNext, aCont, aBrk, aAsg, aCall, aCallX, aMeth, aFld, aSetFld, aFldAug, aAug, aRaise, aMake, aYes, kName, kCons, kNil, kSub, nth, put, wipeD, asT_b, fAdd_i, fAdd_s, fAdd_t, fAdd_l, fSub_i, fLt_i, fLe_i, fGt_i, fGe_i, fMul_i, fMod_i, fFdiv_i, fPow_i, fNeg_i, fEq_i, fEq_s, fEq_b, fNe_i, fNe_s, fNe_b, fIn_s, fNi_s, fIx_t0, fIx_t1, fIx_t2, fIx_l0, fIx_l1, fSl_s, fSl_t, fSl_l, fLen_t, fLen_l, fInt_i, fAbs_i, fMax_i, fMin_i, fTuple_t, fTuple_l, fList_t, fList_l, fRepS_s, seqOf_t, seqOf_l, truD_b, truD_t, truD_l, kTup_t, fIsN_n, fIsi_non_int, fIsi_non_bool, fIsi_non_str, fIsi_non_tuple, fIsi_non_list, fIsi_bl_int, fIsi_bl_bool, fIsi_bl_str, fIsi_bl_tuple, fIsi_bl_list, fIsi_int_int, fIsi_int_bool, fIsi_int_str, fIsi_int_tuple, fIsi_int_list, fIsi_str_int, fIsi_str_bool, fIsi_str_str, fIsi_str_tuple, fIsi_str_list, fIsi_tup_int, fIsi_tup_bool, fIsi_tup_str, fIsi_tup_tuple, fIsi_tup_list, fIsi_lst_int, fIsi_lst_bool, fIsi_lst_str, fIsi_lst_tuple, fIsi_lst_list, isN, fIx_sy0, fIx_sy1, ite_tt, ite_ff]
    rw [eN]
    refine ⟨c, s, 17, rfl, t0.tp, by decide, by decide, fun q m1 q0 q1 t1 => ?_⟩
    obtain ⟨d, hd, hm⟩ := atL (xs := L) q0 (by rw [eN]; exact q1)
    try simp only [aSeq, aSet, aC, aVar, aOp, aTest, aTru, aAnd, aOr, aNot, aAndV, aOrV, aNotV, aIfE, aNil, aCons, aTup, aLst, aLstB, aUn, aCa, aSl, aNo, aPart, aM, aML, aRet, aRetN, aIf, aDo, aNext, aCont, aBrk, aAsg, aCall, aCallX, aMeth, aFld, aSetFld, aFldAug, aAug, aRaise, aMake, aYes, kName, kCons, kNil, kSub, nth, put, wipeD, asT_b, fAdd_i, fAdd_s, fAdd_t, fAdd_l, fSub_i, fLt_i, fLe_i, fGt_i, fGe_i, fMul_i, fMod_i, fFdiv_i, fPow_i, fNeg_i, fEq_i, fEq_s, fEq_b, fNe_i, fNe_s, fNe_b, fIn_s, fNi_s, fIx_t0, fIx_t1, fIx_t2, fIx_l0, fIx_l1, fSl_s, fSl_t, fSl_l, fLen_t, fLen_l, fInt_i, fAbs_i, fMax_i, fMin_i, fTuple_t, fTuple_l, fList_t, fList_l, fRepS_s, seqOf_t, seqOf_l, truD_b, truD_t, truD_l, kTup_t, fIsN_n, fIsi_non_int, fIsi_non_bool, fIsi_non_str, fIsi_non_tuple, fIsi_non_list, fIsi_bl_int, fIsi_bl_bool, fIsi_bl_str, fIsi_bl_tuple, fIsi_bl_list, fIsi_int_int, fIsi_int_bool, fIsi_int_str, fIsi_int_tuple, fIsi_int_list, fIsi_str_int, fIsi_str_bool, fIsi_str_str, fIsi_str_tuple, fIsi_str_list, fIsi_tup_int, fIsi_tup_bool, fIsi_tup_str, fIsi_tup_tuple, fIsi_tup_list, fIsi_lst_int, fIsi_lst_bool, fIsi_lst_str, fIsi_lst_tuple, fIsi_lst_list, isN, fIx_sy0, fIx_sy1, ite_tt, ite_ff, fIx_l hd]
    obtain ⟨f1, f2⟩ := eL d hm
    refine ⟨r, d, rfl, f1, f2, ?_⟩
    try simp only [aSeq, aSet, aC, aVar, aOp, aTest, aTru, aAnd, aOr, aNot, aAndV, aOrV, aNotV, aIfE, aNil, aCons, aTup, aLst, aLstB, aUn, aCa, aSl, aNo, aPart, aM, aML, aRet, aRetN, aIf, aDo, aNext, aCont, aBrk, aAsg, aCall, aCallX, aMeth, aFld, aSetFld, aFldAug, aAug, aRaise, aMake, aYes, kName, kCons, kNil, kSub, nth, put, wipeD, asT_b, fAdd_i, fAdd_s, fAdd_t, fAdd_l, fSub_i, fLt_i, fLe_i, fGt_i, fGe_i, fMul_i, fMod_i, fFdiv_i, fPow_i, fNeg_i, fEq_i, fEq_s, fEq_b, fNe_i, fNe_s, fNe_b, fIn_s, fNi_s, fIx_t0, fIx_t1, fIx_t2, fIx_l0, fIx_l1, fSl_s, fSl_t, fSl_l, fLen_t, fLen_l, fInt_i, fAbs_i, fMax_i, fMin_i, fTuple_t, fTuple_l, fList_t, fList_l, fRepS_s, seqOf_t, seqOf_l, truD_b, truD_t, truD_l, kTup_t, fIsN_n, fIsi_non_int, fIsi_non_bool, fIsi_non_str, fIsi_non_tuple, fIsi_non_list, fIsi_bl_int, fIsi_bl_bool, fIsi_bl_str, fIsi_bl_tuple, fIsi_bl_list, fIsi_int_int, fIsi_int_bool, fIsi_int_str, fIsi_int_tuple, fIsi_int_list, fIsi_str_int, fIsi_str_bool, fIsi_str_str, fIsi_str_tuple, fIsi_str_list, fIsi_tup_int, fIsi_tup_bool, fIsi_tup_str, fIsi_tup_tuple, fIsi_tup_list, fIsi_lst_int, fIsi_lst_bool, fIsi_lst_str, fIsi_lst_tuple, fIsi_lst_list, isN, fIx_sy0, fIx_sy1, ite_tt, ite_ff]
    refine ⟨by simp, refO, rfl, rfl, by decide, ?_⟩
    try simp only [aSeq, aSet, aC, aVar, aOp, aTest, aTru, aAnd, aOr, aNot, aAndV, aOrV, aNotV, aIfE, aNil, aCons, aTup, aLst, aLstB, aUn, aCa, aSl, aNo, aPart, aM, aML, aRet, aRetN, aIf, aDo, aNext, aCont, aBrk, aAsg, aCall, aCallX, aMeth, aFld, aSetFld, aFldAug, aAug, aRaise, aMake, aYes, kName, kCons, kNil, kSub, nth, put, wipeD, asT_b, fAdd_i, fAdd_s, fAdd_t, fAdd_l, fSub_i, fLt_i, fLe_i, fGt_i, fGe_i, fMul_i, fMod_i, fFdiv_i, fPow_i, fNeg_i, fEq_i, fEq_s, fEq_b, fNe_i, fNe_s, fNe_b, fIn_s, fNi_s, fIx_t0, fIx_t1, fIx_t2, fIx_l0, fIx_l1, fSl_s, fSl_t, fSl_l, fLen_t, fLen_l, fInt_i, fAbs_i, fMax_i, fMin_i, fTuple_t, fTuple_l, fList_t, fList_l, fRepS_s, seqOf_t, seqOf_l, truD_b, truD_t, truD_l, kTup_t, fIsN_n, fIsi_non_int, fIsi_non_bool, fIsi_non_str, fIsi_non_tuple, fIsi_non_list, fIsi_bl_int, fIsi_bl_bool, fIsi_bl_str, fIsi_bl_tuple, fIsi_bl_list, fIsi_int_int, fIsi_int_bool, fIsi_int_str, fIsi_int_tuple, fIsi_int_list, fIsi_str_int, fIsi_str_bool, fIsi_str_str, fIsi_str_tuple, fIsi_str_list, fIsi_tup_int, fIsi_tup_bool, fIsi_tup_str, fIsi_tup_tuple, fIsi_tup_list, fIsi_lst_int, fIsi_lst_bool, fIsi_lst_str, fIsi_lst_tuple, fIsi_lst_list, isN, fIx_sy0, fIx_sy1, ite_tt, ite_ff]
    exact ⟨_, _, rfl, t0.trans t1⟩
  · rintro g m' ⟨x, y, rfl, t0⟩
    try simp only [aSeq, aSet, aC, aVar, aOp, aTest, aTru, aAnd, aOr, aNot, aAndV, aOrV, aNotV, aIfE, aNil, aCons, aTup, aLst, aLstB, aUn, aCa, aSl, aNo, aPart, aM, aML, aRet, aRetN, aIf, aDo, aNext, aCont, aBrk, aAsg, aCall, aCallX, aMeth, aFld, aSetFld, aFldAug, aAug, aRaise, aMake, aYes, kName, kCons, kNil, kSub, nth, put, wipeD, asT_b, fAdd_i, fAdd_s, fAdd_t, fAdd_l, fSub_i, fLt_i, fLe_i, fGt_i, fGe_i, fMul_i, fMod_i, fFdiv_i, fPow_i, fNeg_i, fEq_i, fEq_s, fEq_b, fNe_i, fNe_s, fNe_b, fIn_s, fNi_s, fIx_t0, fIx_t1, fIx_t2, fIx_l0, fIx_l1, fSl_s, fSl_t, fSl_l, fLen_t, fLen_l, fInt_i, fAbs_i, fMax_i, fMin_i, fTuple_t, fTuple_l, fList_t, fList_l, fRepS_s, seqOf_t, seqOf_l, truD_b, truD_t, truD_l, kTup_t, fIsN_n, fIsi_non_int, fIsi_non_bool, fIsi_non_str, fIsi_non_tuple, fIsi_non_list, fIsi_bl_int, fIsi_bl_bool, fIsi_bl_str, fIsi_bl_tuple, fIsi_bl_list, fIsi_int_int, fIsi_int_bool, fIsi_int_str, fIsi_int_tuple, fIsi_int_list, fIsi_str_int, fIsi_str_bool, fIsi_str_str, fIsi_str_tuple, fIsi_str_list, fIsi_tup_int, fIsi_tup_bool, fIsi_tup_str, fIsi_tup_tuple, fIsi_tup_list, fIsi_lst_int, fIsi_lst_bool, fIsi_lst_str, fIsi_lst_tuple, fIsi_lst_list, isN, fIx_sy0, fIx_sy1, ite_tt, ite_ff]
    exact fzE.of (hq _ t0)
end AL
set_option maxHeartbeats 4000000
namespace AL
open PySem L2 Evl
variable {K : PySem.W.Frag}
/-! ### wholes -/
theorem bf_refl : ∀ A : List Int, bf A A = false
  | [] => rfl
  | x :: A => by
    show (if x = x then bf A A else _) = false
    rw [if_pos rfl, bf_refl A]
theorem bf_pre : ∀ P X Y : List Int, bf (P ++ X) (P ++ Y) = bf X Y
  | [], X, Y => rfl
  | p :: P, X, Y => by
    show (if p = p then bf (P ++ X) (P ++ Y) else _) = _
    rw [if_pos rfl, bf_pre P X Y]
theorem bf_suf (S : List Int) : ∀ a b : List Sy, a.length = b.length → bf (a.flatMap sgs ++ S) (b.flatMap sgs ++ S) = bf (a.flatMap sgs) (b.flatMap sgs)
  | [], [], _ => bf_refl S
  | s :: a, t :: b, h => by
    have ih := bf_suf S a b (by simpa using h)
    have e1 : ∀ (x : Sy) (c : List Sy) (Z : List Int), (x :: c).flatMap sgs ++ Z = x.w.map sg ++ -1 :: (x.n : Int) :: (c.flatMap sgs ++ Z) := fun x c Z => by simp [sgs]
    have e2 : ∀ (x : Sy) (c : List Sy), (x :: c).flatMap sgs = x.w.map sg ++ -1 :: (x.n : Int) :: c.flatMap sgs := fun x c => by simp [sgs]
    rw [e1, e1, e2, e2, bf_sg, bf_sg, ih]
theorem ahead_put {w a b : Rw} {k : Nat} : ahead (putR w k a) (putR w k b) = ahead a b := by
  rw [ahead_nums, ahead_nums]
  unfold numsOf putR
  rw [List.length_append, List.length_append, List.length_append, List.length_append]
  by_cases e : a.length = b.length
  · have e1 : ((w.take k).length + a.length + (w.drop (k + far (w.drop k) 1)).length : Nat) = ((w.take k).length + b.length + (w.drop (k + far (w.drop k) 1)).length : Nat) := by omega
    have q : ∀ (x y : Int) (A B : List Int), x = y → bf (x :: A) (y :: B) = bf A B := fun x y A B h => if_pos h
    rw [q _ _ _ _ (by rw [e1]), q _ _ _ _ (by rw [e])]
    rw [List.flatMap_append, List.flatMap_append, List.flatMap_append, List.flatMap_append, List.append_assoc, List.append_assoc, bf_pre, bf_suf _ a b e]
  · have q : ∀ (x y : Int) (A B : List Int), x ≠ y → bf (x :: A) (y :: B) = decide (x < y) := fun x y A B h => if_neg h
    rw [q _ _ _ _ (by omega), q _ _ _ _ (by omega), decide_eq_decide]
    omega
theorem put_tree {w p : Rw} {k : Nat} (hw : whole w) (hg : goodR w) (hl : w.length ≤ 100) (hk : k < w.length) (hp : Tree p) (hpl : p.length ≤ 100) : Tree (putR w k p) ∧ (putR w k p).length ≤ 200 := by
  have := put_len w p k
  exact ⟨⟨whole_put hw hp.wh hk, put_good hg hp.good, by omega⟩, by omega⟩
def sp_law_wholes : ASp := fun ds m P _ => ∃ (c s : Addr) (ms mo : List Sy) (rows : List Rw), ds = [tapeD c s, .lst (ms.map syD), .lst (rows.map rowD)] ∧ TapeIn m c s ∧ MarksOk ms ∧ MoreOk mo ∧ RowsOk ms mo 70 rows ∧ ∀ m', Tp c s m m' → P (.bl true) m'
theorem rd_law_wholes {CN : Addr} : ∀ ds m Q W, sp_law_wholes ds m Q W → b_law_wholes (sp_is_ahead CN) sp_law_before sp_law_far sp_law_pick sp_law_same sp_law_tree (sp_with_piece CN) W { nx := fun _ m' => fzE K Q .non m', rt := fzE K Q } (ds.map some ++ List.replicate (N_law_wholes.length - ds.length) none) m := by
  rintro ds m Q W ⟨c, s, ms, mo, rows, rfl, tp, hms, hmo, hrows, hq⟩
  change b_law_wholes _ _ _ _ _ _ _ W _ [some (tapeD c s), some (.lst (ms.map syD)), some (.lst (rows.map rowD)), none, none, none, none, none, none, none, none, none] m
  unfold b_law_wholes
  have hpos : 0 < rows.length := List.length_pos_iff.mpr hrows.ne
  have hfew := hrows.few
  refine cut_plain ?_
  try simp only [aSeq, aSet, aC, aVar, aOp, aTest, aTru, aAnd, aOr, aNot, aAndV, aOrV, aNotV, aIfE, aNil, aCons, aTup, aLst, aLstB, aUn, aCa, aSl, aNo, aPart, aM, aML, aRet, aRetN, aIf, aDo, aNext, aCont, aBrk, aAsg, aCall, aCallX, aMeth, aFld, aSetFld, aFldAug, aAug, aRaise, aMake, aYes, kName, kCons, kNil, kSub, nth, put, wipeD, asT_b, fAdd_i, fAdd_s, fAdd_t, fAdd_l, fSub_i, fLt_i, fLe_i, fGt_i, fGe_i, fMul_i, fMod_i, fFdiv_i, fPow_i, fNeg_i, fEq_i, fEq_s, fEq_b, fNe_i, fNe_s, fNe_b, fIn_s, fNi_s, fIx_t0, fIx_t1, fIx_t2, fIx_l0, fIx_l1, fSl_s, fSl_t, fSl_l, fLen_t, fLen_l, fInt_i, fAbs_i, fMax_i, fMin_i, fTuple_t, fTuple_l, fList_t, fList_l, fRepS_s, seqOf_t, seqOf_l, truD_b, truD_t, truD_l, kTup_t, fIsN_n, fIsi_non_int, fIsi_non_bool, fIsi_non_str, fIsi_non_tuple, fIsi_non_list, fIsi_bl_int, fIsi_bl_bool, fIsi_bl_str, fIsi_bl_tuple, fIsi_bl_list, fIsi_int_int, fIsi_int_bool, fIsi_int_str, fIsi_int_tuple, fIsi_int_list, fIsi_str_int, fIsi_str_bool, fIsi_str_str, fIsi_str_tuple, fIsi_str_list, fIsi_tup_int, fIsi_tup_bool, fIsi_tup_str, fIsi_tup_tuple, fIsi_tup_list, fIsi_lst_int, fIsi_lst_bool, fIsi_lst_str, fIsi_lst_tuple, fIsi_lst_list, isN, fIx_sy0, fIx_sy1, ite_tt, ite_ff]
  refine ⟨c, s, 9, rfl, tp, by decide, by decide, fun q m1 q0 q1 t1 => ?_⟩
  obtain ⟨q, rfl⟩ := nn_of q0
  try simp only [aSeq, aSet, aC, aVar, aOp, aTest, aTru, aAnd, aOr, aNot, aAndV, aOrV, aNotV, aIfE, aNil, aCons, aTup, aLst, aLstB, aUn, aCa, aSl, aNo, aPart, aM, aML, aRet, aRetN, aIf, aDo, aNext, aCont, aBrk, aAsg, aCall, aCallX, aMeth, aFld, aSetFld, aFldAug, aAug, aRaise, aMake, aYes, kName, kCons, kNil, kSub, nth, put, wipeD, asT_b, fAdd_i, fAdd_s, fAdd_t, fAdd_l, fSub_i, fLt_i, fLe_i, fGt_i, fGe_i, fMul_i, fMod_i, fFdiv_i, fPow_i, fNeg_i, fEq_i, fEq_s, fEq_b, fNe_i, fNe_s, fNe_b, fIn_s, fNi_s, fIx_t0, fIx_t1, fIx_t2, fIx_l0, fIx_l1, fSl_s, fSl_t, fSl_l, fLen_t, fLen_l, fInt_i, fAbs_i, fMax_i, fMin_i, fTuple_t, fTuple_l, fList_t, fList_l, fRepS_s, seqOf_t, seqOf_l, truD_b, truD_t, truD_l, kTup_t, fIsN_n, fIsi_non_int, fIsi_non_bool, fIsi_non_str, fIsi_non_tuple, fIsi_non_list, fIsi_bl_int, fIsi_bl_bool, fIsi_bl_str, fIsi_bl_tuple, fIsi_bl_list, fIsi_int_int, fIsi_int_bool, fIsi_int_str, fIsi_int_tuple, fIsi_int_list, fIsi_str_int, fIsi_str_bool, fIsi_str_str, fIsi_str_tuple, fIsi_str_list, fIsi_tup_int, fIsi_tup_bool, fIsi_tup_str, fIsi_tup_tuple, fIsi_tup_list, fIsi_lst_int, fIsi_lst_bool, fIsi_lst_str, fIsi_lst_tuple, fIsi_lst_list, isN, fIx_sy0, fIx_sy1, ite_tt, ite_ff]
  refine ⟨c, s, ms, 1 + q, by rw [int_eq (show (1 : Int) + (q : Int) = ((1 + q : Nat) : Int) by omega)], t1.tp, hms, by omega, by omega, fun w m2 ww wl wg t2 => ?_⟩
  have t12 := t1.trans t2
  have gw : goodR w := fun x hx => hms.good x (wg x hx)
  have lw : w.length ≤ 10 := by omega
  refine cut_plain ?_
  try simp only [aSeq, aSet, aC, aVar, aOp, aTest, aTru, aAnd, aOr, aNot, aAndV, aOrV, aNotV, aIfE, aNil, aCons, aTup, aLst, aLstB, aUn, aCa, aSl, aNo, aPart, aM, aML, aRet, aRetN, aIf, aDo, aNext, aCont, aBrk, aAsg, aCall, aCallX, aMeth, aFld, aSetFld, aFldAug, aAug, aRaise, aMake, aYes, kName, kCons, kNil, kSub, nth, put, wipeD, asT_b, fAdd_i, fAdd_s, fAdd_t, fAdd_l, fSub_i, fLt_i, fLe_i, fGt_i, fGe_i, fMul_i, fMod_i, fFdiv_i, fPow_i, fNeg_i, fEq_i, fEq_s, fEq_b, fNe_i, fNe_s, fNe_b, fIn_s, fNi_s, fIx_t0, fIx_t1, fIx_t2, fIx_l0, fIx_l1, fSl_s, fSl_t, fSl_l, fLen_t, fLen_l, fInt_i, fAbs_i, fMax_i, fMin_i, fTuple_t, fTuple_l, fList_t, fList_l, fRepS_s, seqOf_t, seqOf_l, truD_b, truD_t, truD_l, kTup_t, fIsN_n, fIsi_non_int, fIsi_non_bool, fIsi_non_str, fIsi_non_tuple, fIsi_non_list, fIsi_bl_int, fIsi_bl_bool, fIsi_bl_str, fIsi_bl_tuple, fIsi_bl_list, fIsi_int_int, fIsi_int_bool, fIsi_int_str, fIsi_int_tuple, fIsi_int_list, fIsi_str_int, fIsi_str_bool, fIsi_str_str, fIsi_str_tuple, fIsi_str_list, fIsi_tup_int, fIsi_tup_bool, fIsi_tup_str, fIsi_tup_tuple, fIsi_tup_list, fIsi_lst_int, fIsi_lst_bool, fIsi_lst_str, fIsi_lst_tuple, fIsi_lst_list, isN, fIx_sy0, fIx_sy1, ite_tt, ite_ff]
  rw [List.length_map]
  refine ⟨c, s, rows.length, rfl, t12.tp, by omega, by omega, fun st m3 s0 s1 t3 => ?_⟩
  have t123 := t12.trans t3
  refine cut_plain ?_
  try simp only [aSeq, aSet, aC, aVar, aOp, aTest, aTru, aAnd, aOr, aNot, aAndV, aOrV, aNotV, aIfE, aNil, aCons, aTup, aLst, aLstB, aUn, aCa, aSl, aNo, aPart, aM, aML, aRet, aRetN, aIf, aDo, aNext, aCont, aBrk, aAsg, aCall, aCallX, aMeth, aFld, aSetFld, aFldAug, aAug, aRaise, aMake, aYes, kName, kCons, kNil, kSub, nth, put, wipeD, asT_b, fAdd_i, fAdd_s, fAdd_t, fAdd_l, fSub_i, fLt_i, fLe_i, fGt_i, fGe_i, fMul_i, fMod_i, fFdiv_i, fPow_i, fNeg_i, fEq_i, fEq_s, fEq_b, fNe_i, fNe_s, fNe_b, fIn_s, fNi_s, fIx_t0, fIx_t1, fIx_t2, fIx_l0, fIx_l1, fSl_s, fSl_t, fSl_l, fLen_t, fLen_l, fInt_i, fAbs_i, fMax_i, fMin_i, fTuple_t, fTuple_l, fList_t, fList_l, fRepS_s, seqOf_t, seqOf_l, truD_b, truD_t, truD_l, kTup_t, fIsN_n, fIsi_non_int, fIsi_non_bool, fIsi_non_str, fIsi_non_tuple, fIsi_non_list, fIsi_bl_int, fIsi_bl_bool, fIsi_bl_str, fIsi_bl_tuple, fIsi_bl_list, fIsi_int_int, fIsi_int_bool, fIsi_int_str, fIsi_int_tuple, fIsi_int_list, fIsi_str_int, fIsi_str_bool, fIsi_str_str, fIsi_str_tuple, fIsi_str_list, fIsi_tup_int, fIsi_tup_bool, fIsi_tup_str, fIsi_tup_tuple, fIsi_tup_list, fIsi_lst_int, fIsi_lst_bool, fIsi_lst_str, fIsi_lst_tuple, fIsi_lst_list, isN, fIx_sy0, fIx_sy1, ite_tt, ite_ff, aForR, fLen_row]
  refine ⟨0, w.length, rfl, fun _ => rfl, by omega, fun i g m' => m' = m3 ∧ ∃ a b d e f h j, g = [some (tapeD c s), some (.lst (ms.map syD)), some (.lst (rows.map rowD)), some (rowD w), some (.int st), a, b, d, e, f, h, j], ⟨rfl, none, none, none, none, none, none, none, rfl⟩, ?_, ?_⟩
  · rintro i g m' hi ⟨rfl, a, b, d, e, f, h, j, rfl⟩
    have hi : i < w.length := by omega
    have hmod : ∀ x : Int, ∃ r, r ∈ rows ∧ atI (rows.map rowD) (x.fmod rows.length) = some (rowD r) := fun x => by
      obtain ⟨f1, f2⟩ := fmod_in (a := x) (b := (rows.length : Int)) (by omega)
      exact rows_get f1 f2
    try simp only [aSeq, aSet, aC, aVar, aOp, aTest, aTru, aAnd, aOr, aNot, aAndV, aOrV, aNotV, aIfE, aNil, aCons, aTup, aLst, aLstB, aUn, aCa, aSl, aNo, aPart, aM, aML, aRet, aRetN, aIf, aDo, aNext, aCont, aBrk, aAsg, aCall, aCallX, aMeth, aFld, aSetFld, aFldAug, aAug, aRaise, aMake, aYes, kName, kCons, kNil, kSub, nth, put, wipeD, asT_b, fAdd_i, fAdd_s, fAdd_t, fAdd_l, fSub_i, fLt_i, fLe_i, fGt_i, fGe_i, fMul_i, fMod_i, fFdiv_i, fPow_i, fNeg_i, fEq_i, fEq_s, fEq_b, fNe_i, fNe_s, fNe_b, fIn_s, fNi_s, fIx_t0, fIx_t1, fIx_t2, fIx_l0, fIx_l1, fSl_s, fSl_t, fSl_l, fLen_t, fLen_l, fInt_i, fAbs_i, fMax_i, fMin_i, fTuple_t, fTuple_l, fList_t, fList_l, fRepS_s, seqOf_t, seqOf_l, truD_b, truD_t, truD_l, kTup_t, fIsN_n, fIsi_non_int, fIsi_non_bool, fIsi_non_str, fIsi_non_tuple, fIsi_non_list, fIsi_bl_int, fIsi_bl_bool, fIsi_bl_str, fIsi_bl_tuple, fIsi_bl_list, fIsi_int_int, fIsi_int_bool, fIsi_int_str, fIsi_int_tuple, fIsi_int_list, fIsi_str_int, fIsi_str_bool, fIsi_str_str, fIsi_str_tuple, fIsi_str_list, fIsi_tup_int, fIsi_tup_bool, fIsi_tup_str, fIsi_tup_tuple, fIsi_tup_list, fIsi_lst_int, fIsi_lst_bool, fIsi_lst_str, fIsi_lst_tuple, fIsi_lst_list, isN, fIx_sy0, fIx_sy1, ite_tt, ite_ff]
    refine cut_plain ?_
    try simp only [aSeq, aSet, aC, aVar, aOp, aTest, aTru, aAnd, aOr, aNot, aAndV, aOrV, aNotV, aIfE, aNil, aCons, aTup, aLst, aLstB, aUn, aCa, aSl, aNo, aPart, aM, aML, aRet, aRetN, aIf, aDo, aNext, aCont, aBrk, aAsg, aCall, aCallX, aMeth, aFld, aSetFld, aFldAug, aAug, aRaise, aMake, aYes, kName, kCons, kNil, kSub, nth, put, wipeD, asT_b, fAdd_i, fAdd_s, fAdd_t, fAdd_l, fSub_i, fLt_i, fLe_i, fGt_i, fGe_i, fMul_i, fMod_i, fFdiv_i, fPow_i, fNeg_i, fEq_i, fEq_s, fEq_b, fNe_i, fNe_s, fNe_b, fIn_s, fNi_s, fIx_t0, fIx_t1, fIx_t2, fIx_l0, fIx_l1, fSl_s, fSl_t, fSl_l, fLen_t, fLen_l, fInt_i, fAbs_i, fMax_i, fMin_i, fTuple_t, fTuple_l, fList_t, fList_l, fRepS_s, seqOf_t, seqOf_l, truD_b, truD_t, truD_l, kTup_t, fIsN_n, fIsi_non_int, fIsi_non_bool, fIsi_non_str, fIsi_non_tuple, fIsi_non_list, fIsi_bl_int, fIsi_bl_bool, fIsi_bl_str, fIsi_bl_tuple, fIsi_bl_list, fIsi_int_int, fIsi_int_bool, fIsi_int_str, fIsi_int_tuple, fIsi_int_list, fIsi_str_int, fIsi_str_bool, fIsi_str_str, fIsi_str_tuple, fIsi_str_list, fIsi_tup_int, fIsi_tup_bool, fIsi_tup_str, fIsi_tup_tuple, fIsi_tup_list, fIsi_lst_int, fIsi_lst_bool, fIsi_lst_str, fIsi_lst_tuple, fIsi_lst_list, isN, fIx_sy0, fIx_sy1, ite_tt, ite_ff]
    rw [List.length_map]
    simp only [Int.zero_add]
    obtain ⟨one, hone, e1⟩ := hmod (st + (i : Int))
    obtain ⟨two, htwo, e2⟩ := hmod (st + 2 * (i : Int) + 1)
    rw [fIx_l e1]
    refine ⟨by omega, cut_plain ?_⟩
    try simp only [aSeq, aSet, aC, aVar, aOp, aTest, aTru, aAnd, aOr, aNot, aAndV, aOrV, aNotV, aIfE, aNil, aCons, aTup, aLst, aLstB, aUn, aCa, aSl, aNo, aPart, aM, aML, aRet, aRetN, aIf, aDo, aNext, aCont, aBrk, aAsg, aCall, aCallX, aMeth, aFld, aSetFld, aFldAug, aAug, aRaise, aMake, aYes, kName, kCons, kNil, kSub, nth, put, wipeD, asT_b, fAdd_i, fAdd_s, fAdd_t, fAdd_l, fSub_i, fLt_i, fLe_i, fGt_i, fGe_i, fMul_i, fMod_i, fFdiv_i, fPow_i, fNeg_i, fEq_i, fEq_s, fEq_b, fNe_i, fNe_s, fNe_b, fIn_s, fNi_s, fIx_t0, fIx_t1, fIx_t2, fIx_l0, fIx_l1, fSl_s, fSl_t, fSl_l, fLen_t, fLen_l, fInt_i, fAbs_i, fMax_i, fMin_i, fTuple_t, fTuple_l, fList_t, fList_l, fRepS_s, seqOf_t, seqOf_l, truD_b, truD_t, truD_l, kTup_t, fIsN_n, fIsi_non_int, fIsi_non_bool, fIsi_non_str, fIsi_non_tuple, fIsi_non_list, fIsi_bl_int, fIsi_bl_bool, fIsi_bl_str, fIsi_bl_tuple, fIsi_bl_list, fIsi_int_int, fIsi_int_bool, fIsi_int_str, fIsi_int_tuple, fIsi_int_list, fIsi_str_int, fIsi_str_bool, fIsi_str_str, fIsi_str_tuple, fIsi_str_list, fIsi_tup_int, fIsi_tup_bool, fIsi_tup_str, fIsi_tup_tuple, fIsi_tup_list, fIsi_lst_int, fIsi_lst_bool, fIsi_lst_str, fIsi_lst_tuple, fIsi_lst_list, isN, fIx_sy0, fIx_sy1, ite_tt, ite_ff]
    rw [List.length_map, fIx_l e2]
    refine ⟨mul_small (by decide) (by decide) (by omega) (by omega), by omega, cut_plain ?_⟩
    have no := hrows.all _ hone
    have nt := hrows.all _ htwo
    have to := no.tree hms hmo (by decide)
    have tt := nt.tree hms hmo (by decide)
    have lo := no.few
    have lt := nt.few
    obtain ⟨p1, pl1⟩ := put_tree ww gw (by omega) hi to (by omega)
    obtain ⟨p2, pl2⟩ := put_tree ww gw (by omega) hi tt (by omega)
    have so : Small one := small_of to.good (by omega)
    have st2 : Small two := small_of tt.good (by omega)
    have sp1 : Small (putR w i one) := small_of p1.good (by omega)
    have sp2 : Small (putR w i two) := small_of p2.good (by omega)
    try simp only [aSeq, aSet, aC, aVar, aOp, aTest, aTru, aAnd, aOr, aNot, aAndV, aOrV, aNotV, aIfE, aNil, aCons, aTup, aLst, aLstB, aUn, aCa, aSl, aNo, aPart, aM, aML, aRet, aRetN, aIf, aDo, aNext, aCont, aBrk, aAsg, aCall, aCallX, aMeth, aFld, aSetFld, aFldAug, aAug, aRaise, aMake, aYes, kName, kCons, kNil, kSub, nth, put, wipeD, asT_b, fAdd_i, fAdd_s, fAdd_t, fAdd_l, fSub_i, fLt_i, fLe_i, fGt_i, fGe_i, fMul_i, fMod_i, fFdiv_i, fPow_i, fNeg_i, fEq_i, fEq_s, fEq_b, fNe_i, fNe_s, fNe_b, fIn_s, fNi_s, fIx_t0, fIx_t1, fIx_t2, fIx_l0, fIx_l1, fSl_s, fSl_t, fSl_l, fLen_t, fLen_l, fInt_i, fAbs_i, fMax_i, fMin_i, fTuple_t, fTuple_l, fList_t, fList_l, fRepS_s, seqOf_t, seqOf_l, truD_b, truD_t, truD_l, kTup_t, fIsN_n, fIsi_non_int, fIsi_non_bool, fIsi_non_str, fIsi_non_tuple, fIsi_non_list, fIsi_bl_int, fIsi_bl_bool, fIsi_bl_str, fIsi_bl_tuple, fIsi_bl_list, fIsi_int_int, fIsi_int_bool, fIsi_int_str, fIsi_int_tuple, fIsi_int_list, fIsi_str_int, fIsi_str_bool, fIsi_str_str, fIsi_str_tuple, fIsi_str_list, fIsi_tup_int, fIsi_tup_bool, fIsi_tup_str, fIsi_tup_tuple, fIsi_tup_list, fIsi_lst_int, fIsi_lst_bool, fIsi_lst_str, fIsi_lst_tuple, fIsi_lst_list, isN, fIx_sy0, fIx_sy1, ite_tt, ite_ff]
    refine ⟨w, i, rfl, by omega, whole_piece ww hi, cut_plain ?_⟩
    have sl : ∀ (x : Rw) (m : Mu) (P : PD), x.length ≤ 100 → P (rowD (putR w i x)) m → fSl (rowD w) none (some (i : Int)) m (fun y m1 => fAdd y (rowD x) m1 fun z m1 => fSl (rowD w) (some ((i + far (w.drop i) 1 : Nat) : Int)) none m1 fun u m2 => fAdd z u m2 P) := fun x m P hx h => by
      rw [fSl_row, cutD_z, show rowD x = .tup (x.map syD) from rfl, fAdd_t, fSl_row, cutD_n, fAdd_t, put_map]
      simp only [List.length_append, List.length_take, List.length_drop, List.length_map]
      exact ⟨by omega, by omega, h⟩
    try simp only [aSeq, aSet, aC, aVar, aOp, aTest, aTru, aAnd, aOr, aNot, aAndV, aOrV, aNotV, aIfE, aNil, aCons, aTup, aLst, aLstB, aUn, aCa, aSl, aNo, aPart, aM, aML, aRet, aRetN, aIf, aDo, aNext, aCont, aBrk, aAsg, aCall, aCallX, aMeth, aFld, aSetFld, aFldAug, aAug, aRaise, aMake, aYes, kName, kCons, kNil, kSub, nth, put, wipeD, asT_b, fAdd_i, fAdd_s, fAdd_t, fAdd_l, fSub_i, fLt_i, fLe_i, fGt_i, fGe_i, fMul_i, fMod_i, fFdiv_i, fPow_i, fNeg_i, fEq_i, fEq_s, fEq_b, fNe_i, fNe_s, fNe_b, fIn_s, fNi_s, fIx_t0, fIx_t1, fIx_t2, fIx_l0, fIx_l1, fSl_s, fSl_t, fSl_l, fLen_t, fLen_l, fInt_i, fAbs_i, fMax_i, fMin_i, fTuple_t, fTuple_l, fList_t, fList_l, fRepS_s, seqOf_t, seqOf_l, truD_b, truD_t, truD_l, kTup_t, fIsN_n, fIsi_non_int, fIsi_non_bool, fIsi_non_str, fIsi_non_tuple, fIsi_non_list, fIsi_bl_int, fIsi_bl_bool, fIsi_bl_str, fIsi_bl_tuple, fIsi_bl_list, fIsi_int_int, fIsi_int_bool, fIsi_int_str, fIsi_int_tuple, fIsi_int_list, fIsi_str_int, fIsi_str_bool, fIsi_str_str, fIsi_str_tuple, fIsi_str_list, fIsi_tup_int, fIsi_tup_bool, fIsi_tup_str, fIsi_tup_tuple, fIsi_tup_list, fIsi_lst_int, fIsi_lst_bool, fIsi_lst_str, fIsi_lst_tuple, fIsi_lst_list, isN, fIx_sy0, fIx_sy1, ite_tt, ite_ff]
    refine sl one _ _ (by omega) (cut_plain ?_)
    try simp only [aSeq, aSet, aC, aVar, aOp, aTest, aTru, aAnd, aOr, aNot, aAndV, aOrV, aNotV, aIfE, aNil, aCons, aTup, aLst, aLstB, aUn, aCa, aSl, aNo, aPart, aM, aML, aRet, aRetN, aIf, aDo, aNext, aCont, aBrk, aAsg, aCall, aCallX, aMeth, aFld, aSetFld, aFldAug, aAug, aRaise, aMake, aYes, kName, kCons, kNil, kSub, nth, put, wipeD, asT_b, fAdd_i, fAdd_s, fAdd_t, fAdd_l, fSub_i, fLt_i, fLe_i, fGt_i, fGe_i, fMul_i, fMod_i, fFdiv_i, fPow_i, fNeg_i, fEq_i, fEq_s, fEq_b, fNe_i, fNe_s, fNe_b, fIn_s, fNi_s, fIx_t0, fIx_t1, fIx_t2, fIx_l0, fIx_l1, fSl_s, fSl_t, fSl_l, fLen_t, fLen_l, fInt_i, fAbs_i, fMax_i, fMin_i, fTuple_t, fTuple_l, fList_t, fList_l, fRepS_s, seqOf_t, seqOf_l, truD_b, truD_t, truD_l, kTup_t, fIsN_n, fIsi_non_int, fIsi_non_bool, fIsi_non_str, fIsi_non_tuple, fIsi_non_list, fIsi_bl_int, fIsi_bl_bool, fIsi_bl_str, fIsi_bl_tuple, fIsi_bl_list, fIsi_int_int, fIsi_int_bool, fIsi_int_str, fIsi_int_tuple, fIsi_int_list, fIsi_str_int, fIsi_str_bool, fIsi_str_str, fIsi_str_tuple, fIsi_str_list, fIsi_tup_int, fIsi_tup_bool, fIsi_tup_str, fIsi_tup_tuple, fIsi_tup_list, fIsi_lst_int, fIsi_lst_bool, fIsi_lst_str, fIsi_lst_tuple, fIsi_lst_list, isN, fIx_sy0, fIx_sy1, ite_tt, ite_ff]
    refine sl two _ _ (by omega) (cut_plain ?_)
    try simp only [aSeq, aSet, aC, aVar, aOp, aTest, aTru, aAnd, aOr, aNot, aAndV, aOrV, aNotV, aIfE, aNil, aCons, aTup, aLst, aLstB, aUn, aCa, aSl, aNo, aPart, aM, aML, aRet, aRetN, aIf, aDo, aNext, aCont, aBrk, aAsg, aCall, aCallX, aMeth, aFld, aSetFld, aFldAug, aAug, aRaise, aMake, aYes, kName, kCons, kNil, kSub, nth, put, wipeD, asT_b, fAdd_i, fAdd_s, fAdd_t, fAdd_l, fSub_i, fLt_i, fLe_i, fGt_i, fGe_i, fMul_i, fMod_i, fFdiv_i, fPow_i, fNeg_i, fEq_i, fEq_s, fEq_b, fNe_i, fNe_s, fNe_b, fIn_s, fNi_s, fIx_t0, fIx_t1, fIx_t2, fIx_l0, fIx_l1, fSl_s, fSl_t, fSl_l, fLen_t, fLen_l, fInt_i, fAbs_i, fMax_i, fMin_i, fTuple_t, fTuple_l, fList_t, fList_l, fRepS_s, seqOf_t, seqOf_l, truD_b, truD_t, truD_l, kTup_t, fIsN_n, fIsi_non_int, fIsi_non_bool, fIsi_non_str, fIsi_non_tuple, fIsi_non_list, fIsi_bl_int, fIsi_bl_bool, fIsi_bl_str, fIsi_bl_tuple, fIsi_bl_list, fIsi_int_int, fIsi_int_bool, fIsi_int_str, fIsi_int_tuple, fIsi_int_list, fIsi_str_int, fIsi_str_bool, fIsi_str_str, fIsi_str_tuple, fIsi_str_list, fIsi_tup_int, fIsi_tup_bool, fIsi_tup_str, fIsi_tup_tuple, fIsi_tup_list, fIsi_lst_int, fIsi_lst_bool, fIsi_lst_str, fIsi_lst_tuple, fIsi_lst_list, isN, fIx_sy0, fIx_sy1, ite_tt, ite_ff]
    refine ⟨w, one, i, rfl, ww, hi, by omega, to, ?_⟩
    refine ⟨w, two, i, rfl, ww, hi, by omega, tt, ?_⟩
    refine .inl ⟨putR w i one, putR w i two, rfl, p2, ?_⟩
    refine .inl ⟨putR w i two, putR w i one, rfl, p1, ?_⟩
    refine ⟨by simp, cut_plain ?_⟩
    rw [ahead_put, ahead_put]
    try simp only [aSeq, aSet, aC, aVar, aOp, aTest, aTru, aAnd, aOr, aNot, aAndV, aOrV, aNotV, aIfE, aNil, aCons, aTup, aLst, aLstB, aUn, aCa, aSl, aNo, aPart, aM, aML, aRet, aRetN, aIf, aDo, aNext, aCont, aBrk, aAsg, aCall, aCallX, aMeth, aFld, aSetFld, aFldAug, aAug, aRaise, aMake, aYes, kName, kCons, kNil, kSub, nth, put, wipeD, asT_b, fAdd_i, fAdd_s, fAdd_t, fAdd_l, fSub_i, fLt_i, fLe_i, fGt_i, fGe_i, fMul_i, fMod_i, fFdiv_i, fPow_i, fNeg_i, fEq_i, fEq_s, fEq_b, fNe_i, fNe_s, fNe_b, fIn_s, fNi_s, fIx_t0, fIx_t1, fIx_t2, fIx_l0, fIx_l1, fSl_s, fSl_t, fSl_l, fLen_t, fLen_l, fInt_i, fAbs_i, fMax_i, fMin_i, fTuple_t, fTuple_l, fList_t, fList_l, fRepS_s, seqOf_t, seqOf_l, truD_b, truD_t, truD_l, kTup_t, fIsN_n, fIsi_non_int, fIsi_non_bool, fIsi_non_str, fIsi_non_tuple, fIsi_non_list, fIsi_bl_int, fIsi_bl_bool, fIsi_bl_str, fIsi_bl_tuple, fIsi_bl_list, fIsi_int_int, fIsi_int_bool, fIsi_int_str, fIsi_int_tuple, fIsi_int_list, fIsi_str_int, fIsi_str_bool, fIsi_str_str, fIsi_str_tuple, fIsi_str_list, fIsi_tup_int, fIsi_tup_bool, fIsi_tup_str, fIsi_tup_tuple, fIsi_tup_list, fIsi_lst_int, fIsi_lst_bool, fIsi_lst_str, fIsi_lst_tuple, fIsi_lst_list, isN, fIx_sy0, fIx_sy1, ite_tt, ite_ff]
    refine ⟨one, two, rfl, so, st2, ?_⟩
    refine ⟨two, one, rfl, st2, so, ?_⟩
    refine ⟨by simp, _, rfl, by rfl, by simp [dsize, dsizes], ?_⟩
    try simp only [aSeq, aSet, aC, aVar, aOp, aTest, aTru, aAnd, aOr, aNot, aAndV, aOrV, aNotV, aIfE, aNil, aCons, aTup, aLst, aLstB, aUn, aCa, aSl, aNo, aPart, aM, aML, aRet, aRetN, aIf, aDo, aNext, aCont, aBrk, aAsg, aCall, aCallX, aMeth, aFld, aSetFld, aFldAug, aAug, aRaise, aMake, aYes, kName, kCons, kNil, kSub, nth, put, wipeD, asT_b, fAdd_i, fAdd_s, fAdd_t, fAdd_l, fSub_i, fLt_i, fLe_i, fGt_i, fGe_i, fMul_i, fMod_i, fFdiv_i, fPow_i, fNeg_i, fEq_i, fEq_s, fEq_b, fNe_i, fNe_s, fNe_b, fIn_s, fNi_s, fIx_t0, fIx_t1, fIx_t2, fIx_l0, fIx_l1, fSl_s, fSl_t, fSl_l, fLen_t, fLen_l, fInt_i, fAbs_i, fMax_i, fMin_i, fTuple_t, fTuple_l, fList_t, fList_l, fRepS_s, seqOf_t, seqOf_l, truD_b, truD_t, truD_l, kTup_t, fIsN_n, fIsi_non_int, fIsi_non_bool, fIsi_non_str, fIsi_non_tuple, fIsi_non_list, fIsi_bl_int, fIsi_bl_bool, fIsi_bl_str, fIsi_bl_tuple, fIsi_bl_list, fIsi_int_int, fIsi_int_bool, fIsi_int_str, fIsi_int_tuple, fIsi_int_list, fIsi_str_int, fIsi_str_bool, fIsi_str_str, fIsi_str_tuple, fIsi_str_list, fIsi_tup_int, fIsi_tup_bool, fIsi_tup_str, fIsi_tup_tuple, fIsi_tup_list, fIsi_lst_int, fIsi_lst_bool, fIsi_lst_str, fIsi_lst_tuple, fIsi_lst_list, isN, fIx_sy0, fIx_sy1, ite_tt, ite_ff]
    simp only [Bool.not_true, Bool.false_eq_true, if_false]
    refine .inl ⟨putR w i one, putR w i two, rfl, p2, ?_⟩
    refine ⟨putR w i one, putR w i two, rfl, sp1, sp2, ?_⟩
    refine ⟨_, rfl, by rfl, by simp [dsize], ?_⟩
    try simp only [aSeq, aSet, aC, aVar, aOp, aTest, aTru, aAnd, aOr, aNot, aAndV, aOrV, aNotV, aIfE, aNil, aCons, aTup, aLst, aLstB, aUn, aCa, aSl, aNo, aPart, aM, aML, aRet, aRetN, aIf, aDo, aNext, aCont, aBrk, aAsg, aCall, aCallX, aMeth, aFld, aSetFld, aFldAug, aAug, aRaise, aMake, aYes, kName, kCons, kNil, kSub, nth, put, wipeD, asT_b, fAdd_i, fAdd_s, fAdd_t, fAdd_l, fSub_i, fLt_i, fLe_i, fGt_i, fGe_i, fMul_i, fMod_i, fFdiv_i, fPow_i, fNeg_i, fEq_i, fEq_s, fEq_b, fNe_i, fNe_s, fNe_b, fIn_s, fNi_s, fIx_t0, fIx_t1, fIx_t2, fIx_l0, fIx_l1, fSl_s, fSl_t, fSl_l, fLen_t, fLen_l, fInt_i, fAbs_i, fMax_i, fMin_i, fTuple_t, fTuple_l, fList_t, fList_l, fRepS_s, seqOf_t, seqOf_l, truD_b, truD_t, truD_l, kTup_t, fIsN_n, fIsi_non_int, fIsi_non_bool, fIsi_non_str, fIsi_non_tuple, fIsi_non_list, fIsi_bl_int, fIsi_bl_bool, fIsi_bl_str, fIsi_bl_tuple, fIsi_bl_list, fIsi_int_int, fIsi_int_bool, fIsi_int_str, fIsi_int_tuple, fIsi_int_list, fIsi_str_int, fIsi_str_bool, fIsi_str_str, fIsi_str_tuple, fIsi_str_list, fIsi_tup_int, fIsi_tup_bool, fIsi_tup_str, fIsi_tup_tuple, fIsi_tup_list, fIsi_lst_int, fIsi_lst_bool, fIsi_lst_str, fIsi_lst_tuple, fIsi_lst_list, isN, fIx_sy0, fIx_sy1, ite_tt, ite_ff]
    simp only [Bool.not_true, Bool.false_eq_true, if_false]
    exact ⟨by trivial, _, _, _, _, _, _, _, rfl⟩
  · rintro g m' ⟨rfl, a, b, d, e, f, h, j, rfl⟩
    try simp only [aSeq, aSet, aC, aVar, aOp, aTest, aTru, aAnd, aOr, aNot, aAndV, aOrV, aNotV, aIfE, aNil, aCons, aTup, aLst, aLstB, aUn, aCa, aSl, aNo, aPart, aM, aML, aRet, aRetN, aIf, aDo, aNext, aCont, aBrk, aAsg, aCall, aCallX, aMeth, aFld, aSetFld, aFldAug, aAug, aRaise, aMake, aYes, kName, kCons, kNil, kSub, nth, put, wipeD, asT_b, fAdd_i, fAdd_s, fAdd_t, fAdd_l, fSub_i, fLt_i, fLe_i, fGt_i, fGe_i, fMul_i, fMod_i, fFdiv_i, fPow_i, fNeg_i, fEq_i, fEq_s, fEq_b, fNe_i, fNe_s, fNe_b, fIn_s, fNi_s, fIx_t0, fIx_t1, fIx_t2, fIx_l0, fIx_l1, fSl_s, fSl_t, fSl_l, fLen_t, fLen_l, fInt_i, fAbs_i, fMax_i, fMin_i, fTuple_t, fTuple_l, fList_t, fList_l, fRepS_s, seqOf_t, seqOf_l, truD_b, truD_t, truD_l, kTup_t, fIsN_n, fIsi_non_int, fIsi_non_bool, fIsi_non_str, fIsi_non_tuple, fIsi_non_list, fIsi_bl_int, fIsi_bl_bool, fIsi_bl_str, fIsi_bl_tuple, fIsi_bl_list, fIsi_int_int, fIsi_int_bool, fIsi_int_str, fIsi_int_tuple, fIsi_int_list, fIsi_str_int, fIsi_str_bool, fIsi_str_str, fIsi_str_tuple, fIsi_str_list, fIsi_tup_int, fIsi_tup_bool, fIsi_tup_str, fIsi_tup_tuple, fIsi_tup_list, fIsi_lst_int, fIsi_lst_bool, fIsi_lst_str, fIsi_lst_tuple, fIsi_lst_list, isN, fIx_sy0, fIx_sy1, ite_tt, ite_ff]
    exact fzE.of (hq _ t123)
end AL
set_option maxHeartbeats 8000000
namespace AL
open PySem L2 Evl
variable {K : PySem.W.Frag}
theorem chain_len {rows ch : List Rw} (h : IsChain rows ch) : ch.length ≤ rows.length := by
  rw [chain_uniq h (srt_chain rows), (srt_perm _).length_eq]
  exact dd_len rows
theorem chain_of {rows rows' ch : List Rw} (h : IsChain rows ch) (e : ∀ x, x ∈ rows ↔ x ∈ rows') : IsChain rows' ch := ⟨h.asc, fun x => (h.mem x).trans (e x)⟩
theorem rows_pure : ∀ l : List Rw, pures? (l.map rowD) = true
  | [] => rfl
  | r :: l => by
    show (pure? (rowD r) && pures? (l.map rowD)) = true
    rw [row_pure, rows_pure l]
    rfl
theorem rows_size : ∀ l : List Rw, (∀ r ∈ l, r.length ≤ 30) → dsizes (l.map rowD) ≤ 91 * l.length
  | [], _ => by simp [dsizes]
  | r :: l, h => by
    have h1 := rows_size l fun x hx => h x (List.mem_cons_of_mem _ hx)
    have h2 := h r List.mem_cons_self
    show dsize (rowD r) + dsizes (l.map rowD) ≤ _
    rw [row_size, List.length_cons]
    omega
theorem least_of_mem {rows rows' : List Rw} {x : Rw} (h : leastOf rows x) (e : ∀ y, y ∈ rows ↔ y ∈ rows') : leastOf rows' x := ⟨(e x).mp h.1, fun y hy => h.2 y ((e y).mpr hy)⟩
theorem asc_least {x : Rw} {t : List Rw} (h : AscR (x :: t)) : leastOf (x :: t) x := ⟨List.mem_cons_self, fun y hy => by
  rcases List.mem_cons.mp hy with rfl | hy
  · exact ahead_irr _
  · exact ahead_asym ((List.pairwise_cons.mp h).1 y hy)⟩
section
variable {m m1 m2 : Mu} {c s : Addr}
theorem Sub.tp (h : Sub m m1) (hc : m c = none) (hs : m s = none) (t : Tp c s m1 m2) : Sub m m2 := fun a o ha => by
  have h1 : a ≠ c := fun z => by
    rw [z, hc] at ha
    cases ha
  have h2 : a ≠ s := fun z => by
    rw [z, hs] at ha
    cases ha
  rw [t.eq a h1 h2]
  exact h a o ha
end
theorem fLen_rows {l : List Rw} {m : Mu} {P : PD} : fLen [rowsD l] m P = P (.int (l.length : Int)) m := by
  have : fLen [rowsD l] m P = P (.int ((l.map rowD).length : Int)) m := fLen_t
  rw [this, List.length_map]
theorem rowsI {l : List Rw} {i : Nat} {r : Rw} (h : l[i]? = some r) : atI (l.map rowD) (i : Int) = some (rowD r) := atI_nn (by rw [List.getElem?_map, h]; rfl)
theorem fIx_rows {l : List Rw} {i : Nat} {r : Rw} {m : Mu} {P : PD} (h : l[i]? = some r) : fIx (rowsD l) (.int (i : Int)) m P = P (rowD r) m := fIx_t (rowsI h)
theorem tupR {l : List Rw} : tupOf (rowsD l) = some (l.map rowD) := rfl
theorem revR {l : List Rw} : D.tup (l.map rowD).reverse = rowsD l.reverse := by
  rw [← List.map_reverse]
  rfl
def secD : List Rw → D
  | [] => .non
  | r :: _ => rowD r
def sp_law : ASp := fun ds m P _ => ∃ ns : List Int, ds = [.scr ns] ∧ ns.length ≤ 63 ∧ P (.bl true) m
theorem rd_law {CN : Addr} : ∀ ds m Q W, sp_law ds m Q W → b_law sp_in_order (sp_is_ahead CN) sp_law_before sp_law_marks sp_law_pick sp_law_refusals sp_law_rows sp_law_same sp_law_sorted sp_law_tape sp_law_wholes sp_least_of W { nx := fun _ m' => fzE K Q .non m', rt := fzE K Q } (ds.map some ++ List.replicate (N_law.length - ds.length) none) m := by
  rintro ds m Q W ⟨ns, rfl, hns, hq⟩
  change b_law _ _ _ _ _ _ _ _ _ _ _ _ W _ [some (.scr ns), none, none, none, none, none, none, none, none, none, none] m
  unfold b_law
  refine ⟨fun g m' => ∃ c s, g = [some (.scr ns), some (tapeD c s), none, none, none, none, none, none, none, none, none] ∧ m c = none ∧ m s = none ∧ TapeIn m' c s ∧ Sub m m', ?_, ?_⟩
  · simp only [aSeq, aSet, aC, aVar, aOp, aTest, aTru, aAnd, aOr, aNot, aAndV, aOrV, aNotV, aIfE, aNil, aCons, aTup, aLst, aLstB, aUn, aCa, aSl, aNo, aPart, aM, aML, aRet, aRetN, aIf, aDo, aNext, aCont, aBrk, aAsg, aCall, aCallX, aMeth, aFld, aSetFld, aFldAug, aAug, aRaise, aMake, aYes, kName, kCons, kNil, kSub, nth, put, wipeD, asT_b, fAdd_i, fAdd_s, fAdd_t, fAdd_l, fSub_i, fLt_i, fLe_i, fGt_i, fGe_i, fMul_i, fMod_i, fFdiv_i, fPow_i, fNeg_i, fEq_i, fEq_s, fEq_b, fNe_i, fNe_s, fNe_b, fIn_s, fNi_s, fIx_t0, fIx_t1, fIx_t2, fIx_l0, fIx_l1, fSl_s, fSl_t, fSl_l, fLen_t, fLen_l, fInt_i, fAbs_i, fMax_i, fMin_i, fTuple_t, fTuple_l, fList_t, fList_l, fRepS_s, seqOf_t, seqOf_l, truD_b, truD_t, truD_l, kTup_t, fIsN_n, fIsi_non_int, fIsi_non_bool, fIsi_non_str, fIsi_non_tuple, fIsi_non_list, fIsi_bl_int, fIsi_bl_bool, fIsi_bl_str, fIsi_bl_tuple, fIsi_bl_list, fIsi_int_int, fIsi_int_bool, fIsi_int_str, fIsi_int_tuple, fIsi_int_list, fIsi_str_int, fIsi_str_bool, fIsi_str_str, fIsi_str_tuple, fIsi_str_list, fIsi_tup_int, fIsi_tup_bool, fIsi_tup_str, fIsi_tup_tuple, fIsi_tup_list, fIsi_lst_int, fIsi_lst_bool, fIsi_lst_str, fIsi_lst_tuple, fIsi_lst_list, isN, fIx_sy0, fIx_sy1, ite_tt, ite_ff]
    refine ⟨ns, rfl, hns, fun c s m' hc hs tp heq => ⟨c, s, by trivial, hc, hs, tp, fun a o ha => ?_⟩⟩
    rw [heq a (fun z => by rw [z, hc] at ha; cases ha) (fun z => by rw [z, hs] at ha; cases ha)]
    exact ha
  rintro g m1 ⟨c, s, rfl, hc, hs, tp1, sub1⟩
  refine ⟨fun g m' => ∃ ms, MarksOk ms ∧ g = [some (.scr ns), some (tapeD c s), some (.lst (ms.map syD)), none, none, none, none, none, none, none, none] ∧ TapeIn m' c s ∧ Sub m m', ?_, ?_⟩
  · simp only [aSeq, aSet, aC, aVar, aOp, aTest, aTru, aAnd, aOr, aNot, aAndV, aOrV, aNotV, aIfE, aNil, aCons, aTup, aLst, aLstB, aUn, aCa, aSl, aNo, aPart, aM, aML, aRet, aRetN, aIf, aDo, aNext, aCont, aBrk, aAsg, aCall, aCallX, aMeth, aFld, aSetFld, aFldAug, aAug, aRaise, aMake, aYes, kName, kCons, kNil, kSub, nth, put, wipeD, asT_b, fAdd_i, fAdd_s, fAdd_t, fAdd_l, fSub_i, fLt_i, fLe_i, fGt_i, fGe_i, fMul_i, fMod_i, fFdiv_i, fPow_i, fNeg_i, fEq_i, fEq_s, fEq_b, fNe_i, fNe_s, fNe_b, fIn_s, fNi_s, fIx_t0, fIx_t1, fIx_t2, fIx_l0, fIx_l1, fSl_s, fSl_t, fSl_l, fLen_t, fLen_l, fInt_i, fAbs_i, fMax_i, fMin_i, fTuple_t, fTuple_l, fList_t, fList_l, fRepS_s, seqOf_t, seqOf_l, truD_b, truD_t, truD_l, kTup_t, fIsN_n, fIsi_non_int, fIsi_non_bool, fIsi_non_str, fIsi_non_tuple, fIsi_non_list, fIsi_bl_int, fIsi_bl_bool, fIsi_bl_str, fIsi_bl_tuple, fIsi_bl_list, fIsi_int_int, fIsi_int_bool, fIsi_int_str, fIsi_int_tuple, fIsi_int_list, fIsi_str_int, fIsi_str_bool, fIsi_str_str, fIsi_str_tuple, fIsi_str_list, fIsi_tup_int, fIsi_tup_bool, fIsi_tup_str, fIsi_tup_tuple, fIsi_tup_list, fIsi_lst_int, fIsi_lst_bool, fIsi_lst_str, fIsi_lst_tuple, fIsi_lst_list, isN, fIx_sy0, fIx_sy1, ite_tt, ite_ff]
    exact ⟨c, s, rfl, tp1, fun ms m' ok t => ⟨ms, ok, by trivial, t.tp, sub1.tp hc hs t⟩⟩
  rintro g m2 ⟨ms, hms, rfl, tp2, sub2⟩
  refine ⟨fun g m' => ∃ mo rows, MoreOk mo ∧ RowsOk ms mo 70 rows ∧ g = [some (.scr ns), some (tapeD c s), some (.lst (ms.map syD)), some (.lst (rows.map rowD)), none, none, none, none, none, none, none] ∧ TapeIn m' c s ∧ Sub m m', ?_, ?_⟩
  · simp only [aSeq, aSet, aC, aVar, aOp, aTest, aTru, aAnd, aOr, aNot, aAndV, aOrV, aNotV, aIfE, aNil, aCons, aTup, aLst, aLstB, aUn, aCa, aSl, aNo, aPart, aM, aML, aRet, aRetN, aIf, aDo, aNext, aCont, aBrk, aAsg, aCall, aCallX, aMeth, aFld, aSetFld, aFldAug, aAug, aRaise, aMake, aYes, kName, kCons, kNil, kSub, nth, put, wipeD, asT_b, fAdd_i, fAdd_s, fAdd_t, fAdd_l, fSub_i, fLt_i, fLe_i, fGt_i, fGe_i, fMul_i, fMod_i, fFdiv_i, fPow_i, fNeg_i, fEq_i, fEq_s, fEq_b, fNe_i, fNe_s, fNe_b, fIn_s, fNi_s, fIx_t0, fIx_t1, fIx_t2, fIx_l0, fIx_l1, fSl_s, fSl_t, fSl_l, fLen_t, fLen_l, fInt_i, fAbs_i, fMax_i, fMin_i, fTuple_t, fTuple_l, fList_t, fList_l, fRepS_s, seqOf_t, seqOf_l, truD_b, truD_t, truD_l, kTup_t, fIsN_n, fIsi_non_int, fIsi_non_bool, fIsi_non_str, fIsi_non_tuple, fIsi_non_list, fIsi_bl_int, fIsi_bl_bool, fIsi_bl_str, fIsi_bl_tuple, fIsi_bl_list, fIsi_int_int, fIsi_int_bool, fIsi_int_str, fIsi_int_tuple, fIsi_int_list, fIsi_str_int, fIsi_str_bool, fIsi_str_str, fIsi_str_tuple, fIsi_str_list, fIsi_tup_int, fIsi_tup_bool, fIsi_tup_str, fIsi_tup_tuple, fIsi_tup_list, fIsi_lst_int, fIsi_lst_bool, fIsi_lst_str, fIsi_lst_tuple, fIsi_lst_list, isN, fIx_sy0, fIx_sy1, ite_tt, ite_ff]
    exact ⟨c, s, ms, rfl, tp2, hms, fun mo rows m' h1 h2 t => ⟨mo, rows, h1, h2, by trivial, t.tp, sub2.tp hc hs t⟩⟩
  rintro g m3 ⟨mo, rows, hmo, hrows, rfl, tp3, sub3⟩
  have hfew := hrows.few
  have hpos : 0 < rows.length := List.length_pos_iff.mpr hrows.ne
  have htree : ∀ r ∈ rows, Tree r ∧ r.length ≤ 30 := fun r hr => ⟨(hrows.all r hr).tree hms hmo (by decide), (hrows.all r hr).few⟩
  have hsm : ∀ r ∈ rows, Small r := fun r hr => small_of (htree r hr).1.good (by have := (htree r hr).2; omega)
  refine ⟨fun g m' => ∃ ch, IsChain rows ch ∧ (TapeIn m' c s ∧ Sub m m') ∧ g = [some (.scr ns), some (tapeD c s), some (.lst (ms.map syD)), some (.lst (rows.map rowD)), some (rowsD ch), none, none, none, none, none, none], ?_, ?_⟩
  · simp only [aSeq, aSet, aC, aVar, aOp, aTest, aTru, aAnd, aOr, aNot, aAndV, aOrV, aNotV, aIfE, aNil, aCons, aTup, aLst, aLstB, aUn, aCa, aSl, aNo, aPart, aM, aML, aRet, aRetN, aIf, aDo, aNext, aCont, aBrk, aAsg, aCall, aCallX, aMeth, aFld, aSetFld, aFldAug, aAug, aRaise, aMake, aYes, kName, kCons, kNil, kSub, nth, put, wipeD, asT_b, fAdd_i, fAdd_s, fAdd_t, fAdd_l, fSub_i, fLt_i, fLe_i, fGt_i, fGe_i, fMul_i, fMod_i, fFdiv_i, fPow_i, fNeg_i, fEq_i, fEq_s, fEq_b, fNe_i, fNe_s, fNe_b, fIn_s, fNi_s, fIx_t0, fIx_t1, fIx_t2, fIx_l0, fIx_l1, fSl_s, fSl_t, fSl_l, fLen_t, fLen_l, fInt_i, fAbs_i, fMax_i, fMin_i, fTuple_t, fTuple_l, fList_t, fList_l, fRepS_s, seqOf_t, seqOf_l, truD_b, truD_t, truD_l, kTup_t, fIsN_n, fIsi_non_int, fIsi_non_bool, fIsi_non_str, fIsi_non_tuple, fIsi_non_list, fIsi_bl_int, fIsi_bl_bool, fIsi_bl_str, fIsi_bl_tuple, fIsi_bl_list, fIsi_int_int, fIsi_int_bool, fIsi_int_str, fIsi_int_tuple, fIsi_int_list, fIsi_str_int, fIsi_str_bool, fIsi_str_str, fIsi_str_tuple, fIsi_str_list, fIsi_tup_int, fIsi_tup_bool, fIsi_tup_str, fIsi_tup_tuple, fIsi_tup_list, fIsi_lst_int, fIsi_lst_bool, fIsi_lst_str, fIsi_lst_tuple, fIsi_lst_list, isN, fIx_sy0, fIx_sy1, ite_tt, ite_ff]
    exact ⟨rows, rfl, by omega, fun r hr => ⟨(htree r hr).1.good, by have := (htree r hr).2; omega⟩, fun ch hch => ⟨ch, hch, ⟨tp3, sub3⟩, by trivial⟩⟩
  rintro g m4 ⟨ch, hch, inv4, rfl⟩
  have hchl := chain_len hch
  have hchm : ∀ r ∈ ch, Tree r ∧ r.length ≤ 30 := fun r hr => htree r ((hch.mem r).mp hr)
  have hchp : 0 < ch.length := by
    obtain ⟨r, hr⟩ := List.exists_mem_of_length_pos hpos
    exact List.length_pos_of_mem ((hch.mem r).mpr hr)
  -- pairs of the first eight
  refine ⟨fun g m4 => ∃ a b, (TapeIn m4 c s ∧ Sub m m4) ∧ g = [some (.scr ns), some (tapeD c s), some (.lst (ms.map syD)), some (.lst (rows.map rowD)), some (rowsD ch), a, none, none, none, none, b], ?_, ?_⟩
  · have e8 : cutD (rows.map rowD) none (some 8) = (rows.take 8).map rowD := by
      rw [show (8 : Int) = ((8 : Nat) : Int) from rfl, cutD_z, List.map_take]
    have hx8 : ∀ {i : Nat} {x : D}, ((rows.take 8).map rowD)[i]? = some x → ∃ r ∈ rows, x = rowD r := fun {i x} h => by
      obtain ⟨r, hr, rfl⟩ := List.mem_map.mp (List.mem_of_getElem? h)
      exact ⟨r, List.mem_of_mem_take hr, rfl⟩
    simp only [aSeq, aSet, aC, aVar, aOp, aTest, aTru, aAnd, aOr, aNot, aAndV, aOrV, aNotV, aIfE, aNil, aCons, aTup, aLst, aLstB, aUn, aCa, aSl, aNo, aPart, aM, aML, aRet, aRetN, aIf, aDo, aNext, aCont, aBrk, aAsg, aCall, aCallX, aMeth, aFld, aSetFld, aFldAug, aAug, aRaise, aMake, aYes, kName, kCons, kNil, kSub, nth, put, wipeD, asT_b, fAdd_i, fAdd_s, fAdd_t, fAdd_l, fSub_i, fLt_i, fLe_i, fGt_i, fGe_i, fMul_i, fMod_i, fFdiv_i, fPow_i, fNeg_i, fEq_i, fEq_s, fEq_b, fNe_i, fNe_s, fNe_b, fIn_s, fNi_s, fIx_t0, fIx_t1, fIx_t2, fIx_l0, fIx_l1, fSl_s, fSl_t, fSl_l, fLen_t, fLen_l, fInt_i, fAbs_i, fMax_i, fMin_i, fTuple_t, fTuple_l, fList_t, fList_l, fRepS_s, seqOf_t, seqOf_l, truD_b, truD_t, truD_l, kTup_t, fIsN_n, fIsi_non_int, fIsi_non_bool, fIsi_non_str, fIsi_non_tuple, fIsi_non_list, fIsi_bl_int, fIsi_bl_bool, fIsi_bl_str, fIsi_bl_tuple, fIsi_bl_list, fIsi_int_int, fIsi_int_bool, fIsi_int_str, fIsi_int_tuple, fIsi_int_list, fIsi_str_int, fIsi_str_bool, fIsi_str_str, fIsi_str_tuple, fIsi_str_list, fIsi_tup_int, fIsi_tup_bool, fIsi_tup_str, fIsi_tup_tuple, fIsi_tup_list, fIsi_lst_int, fIsi_lst_bool, fIsi_lst_str, fIsi_lst_tuple, fIsi_lst_list, isN, fIx_sy0, fIx_sy1, ite_tt, ite_ff, aFor, e8]
    refine ⟨(rows.take 8).map rowD, rfl, fun i g m4 => (TapeIn m4 c s ∧ Sub m m4) ∧ ∃ a b, g = [some (.scr ns), some (tapeD c s), some (.lst (ms.map syD)), some (.lst (rows.map rowD)), some (rowsD ch), a, none, none, none, none, b], ⟨inv4, none, none, rfl⟩, fun _ _ _ _ _ => rfl, ?_, ?_⟩
    · rintro i x g m5 hx ⟨inv5, a, b, rfl⟩
      obtain ⟨one, hone, rfl⟩ := hx8 hx
      try simp only [aSeq, aSet, aC, aVar, aOp, aTest, aTru, aAnd, aOr, aNot, aAndV, aOrV, aNotV, aIfE, aNil, aCons, aTup, aLst, aLstB, aUn, aCa, aSl, aNo, aPart, aM, aML, aRet, aRetN, aIf, aDo, aNext, aCont, aBrk, aAsg, aCall, aCallX, aMeth, aFld, aSetFld, aFldAug, aAug, aRaise, aMake, aYes, kName, kCons, kNil, kSub, nth, put, wipeD, asT_b, fAdd_i, fAdd_s, fAdd_t, fAdd_l, fSub_i, fLt_i, fLe_i, fGt_i, fGe_i, fMul_i, fMod_i, fFdiv_i, fPow_i, fNeg_i, fEq_i, fEq_s, fEq_b, fNe_i, fNe_s, fNe_b, fIn_s, fNi_s, fIx_t0, fIx_t1, fIx_t2, fIx_l0, fIx_l1, fSl_s, fSl_t, fSl_l, fLen_t, fLen_l, fInt_i, fAbs_i, fMax_i, fMin_i, fTuple_t, fTuple_l, fList_t, fList_l, fRepS_s, seqOf_t, seqOf_l, truD_b, truD_t, truD_l, kTup_t, fIsN_n, fIsi_non_int, fIsi_non_bool, fIsi_non_str, fIsi_non_tuple, fIsi_non_list, fIsi_bl_int, fIsi_bl_bool, fIsi_bl_str, fIsi_bl_tuple, fIsi_bl_list, fIsi_int_int, fIsi_int_bool, fIsi_int_str, fIsi_int_tuple, fIsi_int_list, fIsi_str_int, fIsi_str_bool, fIsi_str_str, fIsi_str_tuple, fIsi_str_list, fIsi_tup_int, fIsi_tup_bool, fIsi_tup_str, fIsi_tup_tuple, fIsi_tup_list, fIsi_lst_int, fIsi_lst_bool, fIsi_lst_str, fIsi_lst_tuple, fIsi_lst_list, isN, fIx_sy0, fIx_sy1, ite_tt, ite_ff, e8]
      refine ⟨(rows.take 8).map rowD, rfl, fun i g m5 => (TapeIn m5 c s ∧ Sub m m5) ∧ ∃ b, g = [some (.scr ns), some (tapeD c s), some (.lst (ms.map syD)), some (.lst (rows.map rowD)), some (rowsD ch), some (rowD one), none, none, none, none, b], ⟨inv5, b, rfl⟩, fun _ _ _ _ _ => rfl, ?_, ?_⟩
      · rintro j y g m6 hy ⟨inv6, b2, rfl⟩
        obtain ⟨two, htwo, rfl⟩ := hx8 hy
        try simp only [aSeq, aSet, aC, aVar, aOp, aTest, aTru, aAnd, aOr, aNot, aAndV, aOrV, aNotV, aIfE, aNil, aCons, aTup, aLst, aLstB, aUn, aCa, aSl, aNo, aPart, aM, aML, aRet, aRetN, aIf, aDo, aNext, aCont, aBrk, aAsg, aCall, aCallX, aMeth, aFld, aSetFld, aFldAug, aAug, aRaise, aMake, aYes, kName, kCons, kNil, kSub, nth, put, wipeD, asT_b, fAdd_i, fAdd_s, fAdd_t, fAdd_l, fSub_i, fLt_i, fLe_i, fGt_i, fGe_i, fMul_i, fMod_i, fFdiv_i, fPow_i, fNeg_i, fEq_i, fEq_s, fEq_b, fNe_i, fNe_s, fNe_b, fIn_s, fNi_s, fIx_t0, fIx_t1, fIx_t2, fIx_l0, fIx_l1, fSl_s, fSl_t, fSl_l, fLen_t, fLen_l, fInt_i, fAbs_i, fMax_i, fMin_i, fTuple_t, fTuple_l, fList_t, fList_l, fRepS_s, seqOf_t, seqOf_l, truD_b, truD_t, truD_l, kTup_t, fIsN_n, fIsi_non_int, fIsi_non_bool, fIsi_non_str, fIsi_non_tuple, fIsi_non_list, fIsi_bl_int, fIsi_bl_bool, fIsi_bl_str, fIsi_bl_tuple, fIsi_bl_list, fIsi_int_int, fIsi_int_bool, fIsi_int_str, fIsi_int_tuple, fIsi_int_list, fIsi_str_int, fIsi_str_bool, fIsi_str_str, fIsi_str_tuple, fIsi_str_list, fIsi_tup_int, fIsi_tup_bool, fIsi_tup_str, fIsi_tup_tuple, fIsi_tup_list, fIsi_lst_int, fIsi_lst_bool, fIsi_lst_str, fIsi_lst_tuple, fIsi_lst_list, isN, fIx_sy0, fIx_sy1, ite_tt, ite_ff]
        refine .inl ⟨one, two, rfl, (htree two htwo).1, ?_⟩
        refine ⟨one, two, rfl, hsm one hone, hsm two htwo, ?_⟩
        refine ⟨_, rfl, by rfl, by simp [dsize], ?_⟩
        try simp only [aSeq, aSet, aC, aVar, aOp, aTest, aTru, aAnd, aOr, aNot, aAndV, aOrV, aNotV, aIfE, aNil, aCons, aTup, aLst, aLstB, aUn, aCa, aSl, aNo, aPart, aM, aML, aRet, aRetN, aIf, aDo, aNext, aCont, aBrk, aAsg, aCall, aCallX, aMeth, aFld, aSetFld, aFldAug, aAug, aRaise, aMake, aYes, kName, kCons, kNil, kSub, nth, put, wipeD, asT_b, fAdd_i, fAdd_s, fAdd_t, fAdd_l, fSub_i, fLt_i, fLe_i, fGt_i, fGe_i, fMul_i, fMod_i, fFdiv_i, fPow_i, fNeg_i, fEq_i, fEq_s, fEq_b, fNe_i, fNe_s, fNe_b, fIn_s, fNi_s, fIx_t0, fIx_t1, fIx_t2, fIx_l0, fIx_l1, fSl_s, fSl_t, fSl_l, fLen_t, fLen_l, fInt_i, fAbs_i, fMax_i, fMin_i, fTuple_t, fTuple_l, fList_t, fList_l, fRepS_s, seqOf_t, seqOf_l, truD_b, truD_t, truD_l, kTup_t, fIsN_n, fIsi_non_int, fIsi_non_bool, fIsi_non_str, fIsi_non_tuple, fIsi_non_list, fIsi_bl_int, fIsi_bl_bool, fIsi_bl_str, fIsi_bl_tuple, fIsi_bl_list, fIsi_int_int, fIsi_int_bool, fIsi_int_str, fIsi_int_tuple, fIsi_int_list, fIsi_str_int, fIsi_str_bool, fIsi_str_str, fIsi_str_tuple, fIsi_str_list, fIsi_tup_int, fIsi_tup_bool, fIsi_tup_str, fIsi_tup_tuple, fIsi_tup_list, fIsi_lst_int, fIsi_lst_bool, fIsi_lst_str, fIsi_lst_tuple, fIsi_lst_list, isN, fIx_sy0, fIx_sy1, ite_tt, ite_ff]
        simp only [Bool.not_true, Bool.false_eq_true, if_false]
        exact ⟨inv6, _, rfl⟩
      · rintro g m6 ⟨inv6, b2, rfl⟩
        exact ⟨inv6, _, _, rfl⟩
    · rintro g m5 ⟨inv5, a, b, rfl⟩
      exact ⟨a, b, inv5, by trivial⟩
  rintro g m5 ⟨a5, a10, inv5, rfl⟩
  -- the chain
  have h0 : ch[0]? = some ch[0] := List.getElem?_eq_getElem hchp
  have up : ∀ i j (hi : i < ch.length) (hj : j < ch.length), i < j → ahead ch[i] ch[j] = true := fun i j hi hj hij => List.pairwise_iff_getElem.mp hch.asc i j hi hj hij
  refine ⟨fun g m6 => ∃ a b d, (TapeIn m6 c s ∧ Sub m m6) ∧ g = [some (.scr ns), some (tapeD c s), some (.lst (ms.map syD)), some (.lst (rows.map rowD)), some (rowsD ch), a5, a, none, none, b, d], ?_, ?_⟩
  · simp only [aSeq, aSet, aC, aVar, aOp, aTest, aTru, aAnd, aOr, aNot, aAndV, aOrV, aNotV, aIfE, aNil, aCons, aTup, aLst, aLstB, aUn, aCa, aSl, aNo, aPart, aM, aML, aRet, aRetN, aIf, aDo, aNext, aCont, aBrk, aAsg, aCall, aCallX, aMeth, aFld, aSetFld, aFldAug, aAug, aRaise, aMake, aYes, kName, kCons, kNil, kSub, nth, put, wipeD, asT_b, fAdd_i, fAdd_s, fAdd_t, fAdd_l, fSub_i, fLt_i, fLe_i, fGt_i, fGe_i, fMul_i, fMod_i, fFdiv_i, fPow_i, fNeg_i, fEq_i, fEq_s, fEq_b, fNe_i, fNe_s, fNe_b, fIn_s, fNi_s, fIx_t0, fIx_t1, fIx_t2, fIx_l0, fIx_l1, fSl_s, fSl_t, fSl_l, fLen_t, fLen_l, fInt_i, fAbs_i, fMax_i, fMin_i, fTuple_t, fTuple_l, fList_t, fList_l, fRepS_s, seqOf_t, seqOf_l, truD_b, truD_t, truD_l, kTup_t, fIsN_n, fIsi_non_int, fIsi_non_bool, fIsi_non_str, fIsi_non_tuple, fIsi_non_list, fIsi_bl_int, fIsi_bl_bool, fIsi_bl_str, fIsi_bl_tuple, fIsi_bl_list, fIsi_int_int, fIsi_int_bool, fIsi_int_str, fIsi_int_tuple, fIsi_int_list, fIsi_str_int, fIsi_str_bool, fIsi_str_str, fIsi_str_tuple, fIsi_str_list, fIsi_tup_int, fIsi_tup_bool, fIsi_tup_str, fIsi_tup_tuple, fIsi_tup_list, fIsi_lst_int, fIsi_lst_bool, fIsi_lst_str, fIsi_lst_tuple, fIsi_lst_list, isN, fIx_sy0, fIx_sy1, ite_tt, ite_ff, aForR, fLen_rows]
    refine ⟨0, (ch.length : Int) - 1, rfl, fun _ => rfl, by omega, fun i g m6 => (TapeIn m6 c s ∧ Sub m m6) ∧ ∃ a b, g = [some (.scr ns), some (tapeD c s), some (.lst (ms.map syD)), some (.lst (rows.map rowD)), some (rowsD ch), a5, a, none, none, b, a10], ⟨inv5, none, none, rfl⟩, ?_, ?_⟩
    · rintro i g m6 hi ⟨inv6, a, b, rfl⟩
      have hi : i + 1 < ch.length := by omega
      have hi0 : i < ch.length := by omega
      have g1 : ch[i]? = some ch[i] := List.getElem?_eq_getElem hi0
      have g2 : ch[i + 1]? = some ch[i + 1] := List.getElem?_eq_getElem hi
      have a1 := up i (i + 1) hi0 hi (by omega)
      have a2 := ahead_asym a1
      have a3 : ahead ch[i] ch[0] = false := by
        by_cases z : i = 0
        · subst z
          exact ahead_irr _
        · exact ahead_asym (up 0 i hchp hi0 (by omega))
      have t1 := (hchm _ (List.getElem_mem hi0)).1
      have t2 := (hchm _ (List.getElem_mem hi)).1
      have t0 := (hchm _ (List.getElem_mem hchp)).1
      have x1 : ∀ {m : Mu} {P : PD}, fIx (rowsD ch) (.int ((i : Int) + 1)) m P = P (rowD ch[i + 1]) m := fIx_rows (i := i + 1) g2
      have x0 : ∀ {m : Mu} {P : PD}, fIx (rowsD ch) (.int 0) m P = P (rowD ch[0]) m := fIx_rows (i := 0) h0
      try simp only [aSeq, aSet, aC, aVar, aOp, aTest, aTru, aAnd, aOr, aNot, aAndV, aOrV, aNotV, aIfE, aNil, aCons, aTup, aLst, aLstB, aUn, aCa, aSl, aNo, aPart, aM, aML, aRet, aRetN, aIf, aDo, aNext, aCont, aBrk, aAsg, aCall, aCallX, aMeth, aFld, aSetFld, aFldAug, aAug, aRaise, aMake, aYes, kName, kCons, kNil, kSub, nth, put, wipeD, asT_b, fAdd_i, fAdd_s, fAdd_t, fAdd_l, fSub_i, fLt_i, fLe_i, fGt_i, fGe_i, fMul_i, fMod_i, fFdiv_i, fPow_i, fNeg_i, fEq_i, fEq_s, fEq_b, fNe_i, fNe_s, fNe_b, fIn_s, fNi_s, fIx_t0, fIx_t1, fIx_t2, fIx_l0, fIx_l1, fSl_s, fSl_t, fSl_l, fLen_t, fLen_l, fInt_i, fAbs_i, fMax_i, fMin_i, fTuple_t, fTuple_l, fList_t, fList_l, fRepS_s, seqOf_t, seqOf_l, truD_b, truD_t, truD_l, kTup_t, fIsN_n, fIsi_non_int, fIsi_non_bool, fIsi_non_str, fIsi_non_tuple, fIsi_non_list, fIsi_bl_int, fIsi_bl_bool, fIsi_bl_str, fIsi_bl_tuple, fIsi_bl_list, fIsi_int_int, fIsi_int_bool, fIsi_int_str, fIsi_int_tuple, fIsi_int_list, fIsi_str_int, fIsi_str_bool, fIsi_str_str, fIsi_str_tuple, fIsi_str_list, fIsi_tup_int, fIsi_tup_bool, fIsi_tup_str, fIsi_tup_tuple, fIsi_tup_list, fIsi_lst_int, fIsi_lst_bool, fIsi_lst_str, fIsi_lst_tuple, fIsi_lst_list, isN, fIx_sy0, fIx_sy1, ite_tt, ite_ff]
      refine cut_plain ?_
      simp only [Int.zero_add]
      try simp only [aSeq, aSet, aC, aVar, aOp, aTest, aTru, aAnd, aOr, aNot, aAndV, aOrV, aNotV, aIfE, aNil, aCons, aTup, aLst, aLstB, aUn, aCa, aSl, aNo, aPart, aM, aML, aRet, aRetN, aIf, aDo, aNext, aCont, aBrk, aAsg, aCall, aCallX, aMeth, aFld, aSetFld, aFldAug, aAug, aRaise, aMake, aYes, kName, kCons, kNil, kSub, nth, put, wipeD, asT_b, fAdd_i, fAdd_s, fAdd_t, fAdd_l, fSub_i, fLt_i, fLe_i, fGt_i, fGe_i, fMul_i, fMod_i, fFdiv_i, fPow_i, fNeg_i, fEq_i, fEq_s, fEq_b, fNe_i, fNe_s, fNe_b, fIn_s, fNi_s, fIx_t0, fIx_t1, fIx_t2, fIx_l0, fIx_l1, fSl_s, fSl_t, fSl_l, fLen_t, fLen_l, fInt_i, fAbs_i, fMax_i, fMin_i, fTuple_t, fTuple_l, fList_t, fList_l, fRepS_s, seqOf_t, seqOf_l, truD_b, truD_t, truD_l, kTup_t, fIsN_n, fIsi_non_int, fIsi_non_bool, fIsi_non_str, fIsi_non_tuple, fIsi_non_list, fIsi_bl_int, fIsi_bl_bool, fIsi_bl_str, fIsi_bl_tuple, fIsi_bl_list, fIsi_int_int, fIsi_int_bool, fIsi_int_str, fIsi_int_tuple, fIsi_int_list, fIsi_str_int, fIsi_str_bool, fIsi_str_str, fIsi_str_tuple, fIsi_str_list, fIsi_tup_int, fIsi_tup_bool, fIsi_tup_str, fIsi_tup_tuple, fIsi_tup_list, fIsi_lst_int, fIsi_lst_bool, fIsi_lst_str, fIsi_lst_tuple, fIsi_lst_list, isN, fIx_sy0, fIx_sy1, ite_tt, ite_ff, aSwap, swapK, Int.zero_add, fIx_rows g1, x1, x0]
      refine .inl ⟨_, _, rfl, t2, ?_⟩
      try simp only [aSeq, aSet, aC, aVar, aOp, aTest, aTru, aAnd, aOr, aNot, aAndV, aOrV, aNotV, aIfE, aNil, aCons, aTup, aLst, aLstB, aUn, aCa, aSl, aNo, aPart, aM, aML, aRet, aRetN, aIf, aDo, aNext, aCont, aBrk, aAsg, aCall, aCallX, aMeth, aFld, aSetFld, aFldAug, aAug, aRaise, aMake, aYes, kName, kCons, kNil, kSub, nth, put, wipeD, asT_b, fAdd_i, fAdd_s, fAdd_t, fAdd_l, fSub_i, fLt_i, fLe_i, fGt_i, fGe_i, fMul_i, fMod_i, fFdiv_i, fPow_i, fNeg_i, fEq_i, fEq_s, fEq_b, fNe_i, fNe_s, fNe_b, fIn_s, fNi_s, fIx_t0, fIx_t1, fIx_t2, fIx_l0, fIx_l1, fSl_s, fSl_t, fSl_l, fLen_t, fLen_l, fInt_i, fAbs_i, fMax_i, fMin_i, fTuple_t, fTuple_l, fList_t, fList_l, fRepS_s, seqOf_t, seqOf_l, truD_b, truD_t, truD_l, kTup_t, fIsN_n, fIsi_non_int, fIsi_non_bool, fIsi_non_str, fIsi_non_tuple, fIsi_non_list, fIsi_bl_int, fIsi_bl_bool, fIsi_bl_str, fIsi_bl_tuple, fIsi_bl_list, fIsi_int_int, fIsi_int_bool, fIsi_int_str, fIsi_int_tuple, fIsi_int_list, fIsi_str_int, fIsi_str_bool, fIsi_str_str, fIsi_str_tuple, fIsi_str_list, fIsi_tup_int, fIsi_tup_bool, fIsi_tup_str, fIsi_tup_tuple, fIsi_tup_list, fIsi_lst_int, fIsi_lst_bool, fIsi_lst_str, fIsi_lst_tuple, fIsi_lst_list, isN, fIx_sy0, fIx_sy1, ite_tt, ite_ff, x1, fIx_rows g1]
      refine .inl ⟨_, _, rfl, t1, ?_⟩
      try simp only [aSeq, aSet, aC, aVar, aOp, aTest, aTru, aAnd, aOr, aNot, aAndV, aOrV, aNotV, aIfE, aNil, aCons, aTup, aLst, aLstB, aUn, aCa, aSl, aNo, aPart, aM, aML, aRet, aRetN, aIf, aDo, aNext, aCont, aBrk, aAsg, aCall, aCallX, aMeth, aFld, aSetFld, aFldAug, aAug, aRaise, aMake, aYes, kName, kCons, kNil, kSub, nth, put, wipeD, asT_b, fAdd_i, fAdd_s, fAdd_t, fAdd_l, fSub_i, fLt_i, fLe_i, fGt_i, fGe_i, fMul_i, fMod_i, fFdiv_i, fPow_i, fNeg_i, fEq_i, fEq_s, fEq_b, fNe_i, fNe_s, fNe_b, fIn_s, fNi_s, fIx_t0, fIx_t1, fIx_t2, fIx_l0, fIx_l1, fSl_s, fSl_t, fSl_l, fLen_t, fLen_l, fInt_i, fAbs_i, fMax_i, fMin_i, fTuple_t, fTuple_l, fList_t, fList_l, fRepS_s, seqOf_t, seqOf_l, truD_b, truD_t, truD_l, kTup_t, fIsN_n, fIsi_non_int, fIsi_non_bool, fIsi_non_str, fIsi_non_tuple, fIsi_non_list, fIsi_bl_int, fIsi_bl_bool, fIsi_bl_str, fIsi_bl_tuple, fIsi_bl_list, fIsi_int_int, fIsi_int_bool, fIsi_int_str, fIsi_int_tuple, fIsi_int_list, fIsi_str_int, fIsi_str_bool, fIsi_str_str, fIsi_str_tuple, fIsi_str_list, fIsi_tup_int, fIsi_tup_bool, fIsi_tup_str, fIsi_tup_tuple, fIsi_tup_list, fIsi_lst_int, fIsi_lst_bool, fIsi_lst_str, fIsi_lst_tuple, fIsi_lst_list, isN, fIx_sy0, fIx_sy1, ite_tt, ite_ff, x1, fIx_rows g1, x0]
      refine .inl ⟨_, _, rfl, t0, ?_⟩
      rw [a1, a2, a3]
      refine ⟨by simp, ?_⟩
      try simp only [aSeq, aSet, aC, aVar, aOp, aTest, aTru, aAnd, aOr, aNot, aAndV, aOrV, aNotV, aIfE, aNil, aCons, aTup, aLst, aLstB, aUn, aCa, aSl, aNo, aPart, aM, aML, aRet, aRetN, aIf, aDo, aNext, aCont, aBrk, aAsg, aCall, aCallX, aMeth, aFld, aSetFld, aFldAug, aAug, aRaise, aMake, aYes, kName, kCons, kNil, kSub, nth, put, wipeD, asT_b, fAdd_i, fAdd_s, fAdd_t, fAdd_l, fSub_i, fLt_i, fLe_i, fGt_i, fGe_i, fMul_i, fMod_i, fFdiv_i, fPow_i, fNeg_i, fEq_i, fEq_s, fEq_b, fNe_i, fNe_s, fNe_b, fIn_s, fNi_s, fIx_t0, fIx_t1, fIx_t2, fIx_l0, fIx_l1, fSl_s, fSl_t, fSl_l, fLen_t, fLen_l, fInt_i, fAbs_i, fMax_i, fMin_i, fTuple_t, fTuple_l, fList_t, fList_l, fRepS_s, seqOf_t, seqOf_l, truD_b, truD_t, truD_l, kTup_t, fIsN_n, fIsi_non_int, fIsi_non_bool, fIsi_non_str, fIsi_non_tuple, fIsi_non_list, fIsi_bl_int, fIsi_bl_bool, fIsi_bl_str, fIsi_bl_tuple, fIsi_bl_list, fIsi_int_int, fIsi_int_bool, fIsi_int_str, fIsi_int_tuple, fIsi_int_list, fIsi_str_int, fIsi_str_bool, fIsi_str_str, fIsi_str_tuple, fIsi_str_list, fIsi_tup_int, fIsi_tup_bool, fIsi_tup_str, fIsi_tup_tuple, fIsi_tup_list, fIsi_lst_int, fIsi_lst_bool, fIsi_lst_str, fIsi_lst_tuple, fIsi_lst_list, isN, fIx_sy0, fIx_sy1, ite_tt, ite_ff]
      refine ⟨by simp, _, rfl, by rfl, by simp [dsize, dsizes], ?_⟩
      try simp only [aSeq, aSet, aC, aVar, aOp, aTest, aTru, aAnd, aOr, aNot, aAndV, aOrV, aNotV, aIfE, aNil, aCons, aTup, aLst, aLstB, aUn, aCa, aSl, aNo, aPart, aM, aML, aRet, aRetN, aIf, aDo, aNext, aCont, aBrk, aAsg, aCall, aCallX, aMeth, aFld, aSetFld, aFldAug, aAug, aRaise, aMake, aYes, kName, kCons, kNil, kSub, nth, put, wipeD, asT_b, fAdd_i, fAdd_s, fAdd_t, fAdd_l, fSub_i, fLt_i, fLe_i, fGt_i, fGe_i, fMul_i, fMod_i, fFdiv_i, fPow_i, fNeg_i, fEq_i, fEq_s, fEq_b, fNe_i, fNe_s, fNe_b, fIn_s, fNi_s, fIx_t0, fIx_t1, fIx_t2, fIx_l0, fIx_l1, fSl_s, fSl_t, fSl_l, fLen_t, fLen_l, fInt_i, fAbs_i, fMax_i, fMin_i, fTuple_t, fTuple_l, fList_t, fList_l, fRepS_s, seqOf_t, seqOf_l, truD_b, truD_t, truD_l, kTup_t, fIsN_n, fIsi_non_int, fIsi_non_bool, fIsi_non_str, fIsi_non_tuple, fIsi_non_list, fIsi_bl_int, fIsi_bl_bool, fIsi_bl_str, fIsi_bl_tuple, fIsi_bl_list, fIsi_int_int, fIsi_int_bool, fIsi_int_str, fIsi_int_tuple, fIsi_int_list, fIsi_str_int, fIsi_str_bool, fIsi_str_str, fIsi_str_tuple, fIsi_str_list, fIsi_tup_int, fIsi_tup_bool, fIsi_tup_str, fIsi_tup_tuple, fIsi_tup_list, fIsi_lst_int, fIsi_lst_bool, fIsi_lst_str, fIsi_lst_tuple, fIsi_lst_list, isN, fIx_sy0, fIx_sy1, ite_tt, ite_ff]
      simp only [Bool.not_true, Bool.false_eq_true, if_false]
      exact ⟨inv6, _, _, rfl⟩
    · rintro g m6 ⟨inv6, a, b, rfl⟩
      exact ⟨a, b, a10, inv6, by trivial⟩
  rintro g m6 ⟨a6, a9, a11, inv6, rfl⟩
  -- wholes, refusals
  have r0 : rows[0]? = some rows[0] := List.getElem?_eq_getElem hpos
  have y0 : ∀ {m : Mu} {P : PD}, fIx (.lst (rows.map rowD)) (.int 0) m P = P (rowD rows[0]) m := fIx_l (rowsI (i := 0) r0)
  have e8 : cutD (rows.map rowD) none (some 8) = (rows.take 8).map rowD := by
    rw [show (8 : Int) = ((8 : Nat) : Int) from rfl, cutD_z, List.map_take]
  have ok8 : RowsOk ms mo 70 (rows.take 8) := ⟨fun z => by
    have := congrArg List.length z
    rw [List.length_take] at this
    simp only [List.length_nil] at this
    omega, by rw [List.length_take]; omega, fun r hr => hrows.all r (List.mem_of_mem_take hr)⟩
  refine ⟨fun g m7 => (TapeIn m7 c s ∧ Sub m m7) ∧ g = [some (.scr ns), some (tapeD c s), some (.lst (ms.map syD)), some (.lst (rows.map rowD)), some (rowsD ch), a5, a6, none, none, a9, a11], ?_, ?_⟩
  · simp only [aSeq, aSet, aC, aVar, aOp, aTest, aTru, aAnd, aOr, aNot, aAndV, aOrV, aNotV, aIfE, aNil, aCons, aTup, aLst, aLstB, aUn, aCa, aSl, aNo, aPart, aM, aML, aRet, aRetN, aIf, aDo, aNext, aCont, aBrk, aAsg, aCall, aCallX, aMeth, aFld, aSetFld, aFldAug, aAug, aRaise, aMake, aYes, kName, kCons, kNil, kSub, nth, put, wipeD, asT_b, fAdd_i, fAdd_s, fAdd_t, fAdd_l, fSub_i, fLt_i, fLe_i, fGt_i, fGe_i, fMul_i, fMod_i, fFdiv_i, fPow_i, fNeg_i, fEq_i, fEq_s, fEq_b, fNe_i, fNe_s, fNe_b, fIn_s, fNi_s, fIx_t0, fIx_t1, fIx_t2, fIx_l0, fIx_l1, fSl_s, fSl_t, fSl_l, fLen_t, fLen_l, fInt_i, fAbs_i, fMax_i, fMin_i, fTuple_t, fTuple_l, fList_t, fList_l, fRepS_s, seqOf_t, seqOf_l, truD_b, truD_t, truD_l, kTup_t, fIsN_n, fIsi_non_int, fIsi_non_bool, fIsi_non_str, fIsi_non_tuple, fIsi_non_list, fIsi_bl_int, fIsi_bl_bool, fIsi_bl_str, fIsi_bl_tuple, fIsi_bl_list, fIsi_int_int, fIsi_int_bool, fIsi_int_str, fIsi_int_tuple, fIsi_int_list, fIsi_str_int, fIsi_str_bool, fIsi_str_str, fIsi_str_tuple, fIsi_str_list, fIsi_tup_int, fIsi_tup_bool, fIsi_tup_str, fIsi_tup_tuple, fIsi_tup_list, fIsi_lst_int, fIsi_lst_bool, fIsi_lst_str, fIsi_lst_tuple, fIsi_lst_list, isN, fIx_sy0, fIx_sy1, ite_tt, ite_ff, e8, y0]
    refine ⟨c, s, ms, mo, _, rfl, inv6.1, hms, hmo, ok8, fun m7 t7 => ?_⟩
    have inv7 : TapeIn m7 c s ∧ Sub m m7 := ⟨t7.tp, inv6.2.tp hc hs t7⟩
    try simp only [aSeq, aSet, aC, aVar, aOp, aTest, aTru, aAnd, aOr, aNot, aAndV, aOrV, aNotV, aIfE, aNil, aCons, aTup, aLst, aLstB, aUn, aCa, aSl, aNo, aPart, aM, aML, aRet, aRetN, aIf, aDo, aNext, aCont, aBrk, aAsg, aCall, aCallX, aMeth, aFld, aSetFld, aFldAug, aAug, aRaise, aMake, aYes, kName, kCons, kNil, kSub, nth, put, wipeD, asT_b, fAdd_i, fAdd_s, fAdd_t, fAdd_l, fSub_i, fLt_i, fLe_i, fGt_i, fGe_i, fMul_i, fMod_i, fFdiv_i, fPow_i, fNeg_i, fEq_i, fEq_s, fEq_b, fNe_i, fNe_s, fNe_b, fIn_s, fNi_s, fIx_t0, fIx_t1, fIx_t2, fIx_l0, fIx_l1, fSl_s, fSl_t, fSl_l, fLen_t, fLen_l, fInt_i, fAbs_i, fMax_i, fMin_i, fTuple_t, fTuple_l, fList_t, fList_l, fRepS_s, seqOf_t, seqOf_l, truD_b, truD_t, truD_l, kTup_t, fIsN_n, fIsi_non_int, fIsi_non_bool, fIsi_non_str, fIsi_non_tuple, fIsi_non_list, fIsi_bl_int, fIsi_bl_bool, fIsi_bl_str, fIsi_bl_tuple, fIsi_bl_list, fIsi_int_int, fIsi_int_bool, fIsi_int_str, fIsi_int_tuple, fIsi_int_list, fIsi_str_int, fIsi_str_bool, fIsi_str_str, fIsi_str_tuple, fIsi_str_list, fIsi_tup_int, fIsi_tup_bool, fIsi_tup_str, fIsi_tup_tuple, fIsi_tup_list, fIsi_lst_int, fIsi_lst_bool, fIsi_lst_str, fIsi_lst_tuple, fIsi_lst_list, isN, fIx_sy0, fIx_sy1, ite_tt, ite_ff]
    simp only [Bool.not_true, Bool.false_eq_true, if_false]
    refine ⟨c, s, rows[0], rfl, inv7.1, (htree _ (List.getElem_mem hpos)).1, by have := (htree _ (List.getElem_mem hpos)).2; omega, fun m8 t8 => ?_⟩
    try simp only [aSeq, aSet, aC, aVar, aOp, aTest, aTru, aAnd, aOr, aNot, aAndV, aOrV, aNotV, aIfE, aNil, aCons, aTup, aLst, aLstB, aUn, aCa, aSl, aNo, aPart, aM, aML, aRet, aRetN, aIf, aDo, aNext, aCont, aBrk, aAsg, aCall, aCallX, aMeth, aFld, aSetFld, aFldAug, aAug, aRaise, aMake, aYes, kName, kCons, kNil, kSub, nth, put, wipeD, asT_b, fAdd_i, fAdd_s, fAdd_t, fAdd_l, fSub_i, fLt_i, fLe_i, fGt_i, fGe_i, fMul_i, fMod_i, fFdiv_i, fPow_i, fNeg_i, fEq_i, fEq_s, fEq_b, fNe_i, fNe_s, fNe_b, fIn_s, fNi_s, fIx_t0, fIx_t1, fIx_t2, fIx_l0, fIx_l1, fSl_s, fSl_t, fSl_l, fLen_t, fLen_l, fInt_i, fAbs_i, fMax_i, fMin_i, fTuple_t, fTuple_l, fList_t, fList_l, fRepS_s, seqOf_t, seqOf_l, truD_b, truD_t, truD_l, kTup_t, fIsN_n, fIsi_non_int, fIsi_non_bool, fIsi_non_str, fIsi_non_tuple, fIsi_non_list, fIsi_bl_int, fIsi_bl_bool, fIsi_bl_str, fIsi_bl_tuple, fIsi_bl_list, fIsi_int_int, fIsi_int_bool, fIsi_int_str, fIsi_int_tuple, fIsi_int_list, fIsi_str_int, fIsi_str_bool, fIsi_str_str, fIsi_str_tuple, fIsi_str_list, fIsi_tup_int, fIsi_tup_bool, fIsi_tup_str, fIsi_tup_tuple, fIsi_tup_list, fIsi_lst_int, fIsi_lst_bool, fIsi_lst_str, fIsi_lst_tuple, fIsi_lst_list, isN, fIx_sy0, fIx_sy1, ite_tt, ite_ff]
    simp only [Bool.not_true, Bool.false_eq_true, if_false]
    exact ⟨⟨t8.tp, inv7.2.tp hc hs t8⟩, by trivial⟩
  rintro g m7 ⟨inv7, rfl⟩
  -- turned
  refine ⟨fun g m8 => ∃ t : Nat, (TapeIn m8 c s ∧ Sub m m8) ∧ g = [some (.scr ns), some (tapeD c s), some (.lst (ms.map syD)), some (.lst (rows.map rowD)), some (rowsD ch), a5, a6, some (.int (t : Int)), none, a9, a11], ?_, ?_⟩
  · simp only [aSeq, aSet, aC, aVar, aOp, aTest, aTru, aAnd, aOr, aNot, aAndV, aOrV, aNotV, aIfE, aNil, aCons, aTup, aLst, aLstB, aUn, aCa, aSl, aNo, aPart, aM, aML, aRet, aRetN, aIf, aDo, aNext, aCont, aBrk, aAsg, aCall, aCallX, aMeth, aFld, aSetFld, aFldAug, aAug, aRaise, aMake, aYes, kName, kCons, kNil, kSub, nth, put, wipeD, asT_b, fAdd_i, fAdd_s, fAdd_t, fAdd_l, fSub_i, fLt_i, fLe_i, fGt_i, fGe_i, fMul_i, fMod_i, fFdiv_i, fPow_i, fNeg_i, fEq_i, fEq_s, fEq_b, fNe_i, fNe_s, fNe_b, fIn_s, fNi_s, fIx_t0, fIx_t1, fIx_t2, fIx_l0, fIx_l1, fSl_s, fSl_t, fSl_l, fLen_t, fLen_l, fInt_i, fAbs_i, fMax_i, fMin_i, fTuple_t, fTuple_l, fList_t, fList_l, fRepS_s, seqOf_t, seqOf_l, truD_b, truD_t, truD_l, kTup_t, fIsN_n, fIsi_non_int, fIsi_non_bool, fIsi_non_str, fIsi_non_tuple, fIsi_non_list, fIsi_bl_int, fIsi_bl_bool, fIsi_bl_str, fIsi_bl_tuple, fIsi_bl_list, fIsi_int_int, fIsi_int_bool, fIsi_int_str, fIsi_int_tuple, fIsi_int_list, fIsi_str_int, fIsi_str_bool, fIsi_str_str, fIsi_str_tuple, fIsi_str_list, fIsi_tup_int, fIsi_tup_bool, fIsi_tup_str, fIsi_tup_tuple, fIsi_tup_list, fIsi_lst_int, fIsi_lst_bool, fIsi_lst_str, fIsi_lst_tuple, fIsi_lst_list, isN, fIx_sy0, fIx_sy1, ite_tt, ite_ff]
    rw [List.length_map]
    refine ⟨c, s, rows.length, rfl, inv7.1, by omega, by omega, fun q m8 q0 q1 t8 => ?_⟩
    obtain ⟨q, rfl⟩ := nn_of q0
    exact ⟨q, ⟨t8.tp, inv7.2.tp hc hs t8⟩, by trivial⟩
  rintro g m8 ⟨t, inv8, rfl⟩
  have etu : (rows.map rowD).drop t ++ (rows.map rowD).take t = (rows.drop t ++ rows.take t).map rowD := by
    rw [List.map_append, List.map_drop, List.map_take]
  have htm : ∀ x, x ∈ rows ↔ x ∈ rows.drop t ++ rows.take t := fun x => by
    rw [List.mem_append]
    constructor
    · intro h
      rw [← List.take_append_drop t rows] at h
      exact (List.mem_append.mp h).symm
    · rintro (h | h)
      · exact List.mem_of_mem_drop h
      · exact List.mem_of_mem_take h
  have htl : (rows.drop t ++ rows.take t).length = rows.length := by
    rw [List.length_append, List.length_drop, List.length_take]
    omega
  refine ⟨fun g m9 => (TapeIn m9 c s ∧ Sub m m9) ∧ g = [some (.scr ns), some (tapeD c s), some (.lst (ms.map syD)), some (.lst (rows.map rowD)), some (rowsD ch), a5, a6, some (.int (t : Int)), some (rowsD (rows.drop t ++ rows.take t)), a9, a11], ?_, ?_⟩
  · simp only [aSeq, aSet, aC, aVar, aOp, aTest, aTru, aAnd, aOr, aNot, aAndV, aOrV, aNotV, aIfE, aNil, aCons, aTup, aLst, aLstB, aUn, aCa, aSl, aNo, aPart, aM, aML, aRet, aRetN, aIf, aDo, aNext, aCont, aBrk, aAsg, aCall, aCallX, aMeth, aFld, aSetFld, aFldAug, aAug, aRaise, aMake, aYes, kName, kCons, kNil, kSub, nth, put, wipeD, asT_b, fAdd_i, fAdd_s, fAdd_t, fAdd_l, fSub_i, fLt_i, fLe_i, fGt_i, fGe_i, fMul_i, fMod_i, fFdiv_i, fPow_i, fNeg_i, fEq_i, fEq_s, fEq_b, fNe_i, fNe_s, fNe_b, fIn_s, fNi_s, fIx_t0, fIx_t1, fIx_t2, fIx_l0, fIx_l1, fSl_s, fSl_t, fSl_l, fLen_t, fLen_l, fInt_i, fAbs_i, fMax_i, fMin_i, fTuple_t, fTuple_l, fList_t, fList_l, fRepS_s, seqOf_t, seqOf_l, truD_b, truD_t, truD_l, kTup_t, fIsN_n, fIsi_non_int, fIsi_non_bool, fIsi_non_str, fIsi_non_tuple, fIsi_non_list, fIsi_bl_int, fIsi_bl_bool, fIsi_bl_str, fIsi_bl_tuple, fIsi_bl_list, fIsi_int_int, fIsi_int_bool, fIsi_int_str, fIsi_int_tuple, fIsi_int_list, fIsi_str_int, fIsi_str_bool, fIsi_str_str, fIsi_str_tuple, fIsi_str_list, fIsi_tup_int, fIsi_tup_bool, fIsi_tup_str, fIsi_tup_tuple, fIsi_tup_list, fIsi_lst_int, fIsi_lst_bool, fIsi_lst_str, fIsi_lst_tuple, fIsi_lst_list, isN, fIx_sy0, fIx_sy1, ite_tt, ite_ff, cutD_n, cutD_z, etu]
    refine ⟨?_, inv8, by trivial⟩
    rw [List.length_drop, List.length_take, List.length_map]
    omega
  rintro g m9 ⟨inv9, rfl⟩
  generalize rows.drop t ++ rows.take t = tu at *
  -- in order
  have revD : ∀ l : List Rw, (l.map rowD).reverse = l.reverse.map rowD := fun l => List.map_reverse.symm
  have io : ∀ (l : List Rw) (m : Mu) (P : PD), l.length ≤ 5000 → (∀ x, x ∈ rows ↔ x ∈ l) → P (rowsD ch) m → sp_in_order [rowsD l] m P fun _ _ _ => False := fun l m P hl hm hp =>
    ⟨l, rfl, hl, fun ch' h' => by rw [chain_uniq (chain_of h' fun x => (hm x).symm) hch]; exact hp⟩
  refine ⟨fun g m10 => (TapeIn m10 c s ∧ Sub m m10) ∧ g = [some (.scr ns), some (tapeD c s), some (.lst (ms.map syD)), some (.lst (rows.map rowD)), some (rowsD ch), a5, a6, some (.int (t : Int)), some (rowsD tu), some (.tup [rowsD ch, rowsD ch, rowsD ch, rowsD [rows[0]]]), a11], ?_, ?_⟩
  · simp only [aSeq, aSet, aC, aVar, aOp, aTest, aTru, aAnd, aOr, aNot, aAndV, aOrV, aNotV, aIfE, aNil, aCons, aTup, aLst, aLstB, aUn, aCa, aSl, aNo, aPart, aM, aML, aRet, aRetN, aIf, aDo, aNext, aCont, aBrk, aAsg, aCall, aCallX, aMeth, aFld, aSetFld, aFldAug, aAug, aRaise, aMake, aYes, kName, kCons, kNil, kSub, nth, put, wipeD, asT_b, fAdd_i, fAdd_s, fAdd_t, fAdd_l, fSub_i, fLt_i, fLe_i, fGt_i, fGe_i, fMul_i, fMod_i, fFdiv_i, fPow_i, fNeg_i, fEq_i, fEq_s, fEq_b, fNe_i, fNe_s, fNe_b, fIn_s, fNi_s, fIx_t0, fIx_t1, fIx_t2, fIx_l0, fIx_l1, fSl_s, fSl_t, fSl_l, fLen_t, fLen_l, fInt_i, fAbs_i, fMax_i, fMin_i, fTuple_t, fTuple_l, fList_t, fList_l, fRepS_s, seqOf_t, seqOf_l, truD_b, truD_t, truD_l, kTup_t, fIsN_n, fIsi_non_int, fIsi_non_bool, fIsi_non_str, fIsi_non_tuple, fIsi_non_list, fIsi_bl_int, fIsi_bl_bool, fIsi_bl_str, fIsi_bl_tuple, fIsi_bl_list, fIsi_int_int, fIsi_int_bool, fIsi_int_str, fIsi_int_tuple, fIsi_int_list, fIsi_str_int, fIsi_str_bool, fIsi_str_str, fIsi_str_tuple, fIsi_str_list, fIsi_tup_int, fIsi_tup_bool, fIsi_tup_str, fIsi_tup_tuple, fIsi_tup_list, fIsi_lst_int, fIsi_lst_bool, fIsi_lst_str, fIsi_lst_tuple, fIsi_lst_list, isN, fIx_sy0, fIx_sy1, ite_tt, ite_ff, y0, aRevT, tupR, revR]
    refine io rows _ _ (by omega) (fun x => Iff.rfl) ?_
    refine io tu.reverse _ _ (by rw [List.length_reverse]; omega) (fun x => by rw [List.mem_reverse]; exact htm x) ?_
    have eA : ∀ (a b : List Rw) (m : Mu) (P : PD), fAdd (rowsD a) (rowsD b) m P = (a.length + b.length ≤ 100000 ∧ P (rowsD (a ++ b)) m) := fun a b m P => by
      have : fAdd (rowsD a) (rowsD b) m P = ((a.map rowD).length + (b.map rowD).length ≤ 100000 ∧ P (.tup (a.map rowD ++ b.map rowD)) m) := fAdd_t
      rw [this, List.length_map, List.length_map, ← List.map_append]
      rfl
    rw [eA]
    refine ⟨by rw [List.length_reverse]; omega, ?_⟩
    refine io _ _ _ (by rw [List.length_append, List.length_reverse]; omega) (fun x => by rw [List.mem_append, List.mem_reverse, or_self]; exact (hch.mem x).symm) ?_
    refine ⟨by simp, [rows[0], rows[0]], rfl, by simp, fun ch' h' => ?_⟩
    have e1 : ch' = [rows[0]] := chain_uniq h' ⟨List.pairwise_singleton _ _, fun x => by simp⟩
    rw [e1]
    exact ⟨by simp, inv9, by trivial⟩
  rintro g m10 ⟨inv10, rfl⟩
  have zc := rows_size ch fun r hr => (hchm r hr).2
  have zr := rows_size rows fun r hr => (htree r hr).2
  have pc : pure? (rowsD ch) = true := rows_pure ch
  have sc : dsize (rowsD ch) ≤ 6400 := by
    show dsizes (ch.map rowD) + 1 ≤ 6400
    omega
  have so : dsize (rowsD [rows[0]]) ≤ 100 := by
    have := rows_size [rows[0]] fun r hr => by rw [List.mem_singleton.mp hr]; exact (htree _ (List.getElem_mem hpos)).2
    show dsizes ([rows[0]].map rowD) + 1 ≤ 100
    simp only [List.length_singleton] at this
    omega
  have po : pure? (rowsD [rows[0]]) = true := rows_pure _
  refine ⟨fun g m11 => (TapeIn m11 c s ∧ Sub m m11) ∧ g = [some (.scr ns), some (tapeD c s), some (.lst (ms.map syD)), some (.lst (rows.map rowD)), some (rowsD ch), a5, a6, some (.int (t : Int)), some (rowsD tu), some (.tup [rowsD ch, rowsD ch, rowsD ch, rowsD [rows[0]]]), a11], ?_, ?_⟩
  · simp only [aSeq, aSet, aC, aVar, aOp, aTest, aTru, aAnd, aOr, aNot, aAndV, aOrV, aNotV, aIfE, aNil, aCons, aTup, aLst, aLstB, aUn, aCa, aSl, aNo, aPart, aM, aML, aRet, aRetN, aIf, aDo, aNext, aCont, aBrk, aAsg, aCall, aCallX, aMeth, aFld, aSetFld, aFldAug, aAug, aRaise, aMake, aYes, kName, kCons, kNil, kSub, nth, put, wipeD, asT_b, fAdd_i, fAdd_s, fAdd_t, fAdd_l, fSub_i, fLt_i, fLe_i, fGt_i, fGe_i, fMul_i, fMod_i, fFdiv_i, fPow_i, fNeg_i, fEq_i, fEq_s, fEq_b, fNe_i, fNe_s, fNe_b, fIn_s, fNi_s, fIx_t0, fIx_t1, fIx_t2, fIx_l0, fIx_l1, fSl_s, fSl_t, fSl_l, fLen_t, fLen_l, fInt_i, fAbs_i, fMax_i, fMin_i, fTuple_t, fTuple_l, fList_t, fList_l, fRepS_s, seqOf_t, seqOf_l, truD_b, truD_t, truD_l, kTup_t, fIsN_n, fIsi_non_int, fIsi_non_bool, fIsi_non_str, fIsi_non_tuple, fIsi_non_list, fIsi_bl_int, fIsi_bl_bool, fIsi_bl_str, fIsi_bl_tuple, fIsi_bl_list, fIsi_int_int, fIsi_int_bool, fIsi_int_str, fIsi_int_tuple, fIsi_int_list, fIsi_str_int, fIsi_str_bool, fIsi_str_str, fIsi_str_tuple, fIsi_str_list, fIsi_tup_int, fIsi_tup_bool, fIsi_tup_str, fIsi_tup_tuple, fIsi_tup_list, fIsi_lst_int, fIsi_lst_bool, fIsi_lst_str, fIsi_lst_tuple, fIsi_lst_list, isN, fIx_sy0, fIx_sy1, ite_tt, ite_ff, y0]
    refine ⟨by simp, by simp, _, rfl, ?_, ?_, ?_⟩
    · show (pure? (rowsD ch) && (pure? (rowsD ch) && (pure? (rowsD ch) && (pure? (rowsD [rows[0]]) && pures? [])))) = true
      rw [pc, po]
      rfl
    · show dsize (rowsD ch) + (dsize (rowsD ch) + (dsize (rowsD ch) + (dsize (rowsD [rows[0]]) + 0))) + 1 ≤ 90000
      omega
    · try simp only [aSeq, aSet, aC, aVar, aOp, aTest, aTru, aAnd, aOr, aNot, aAndV, aOrV, aNotV, aIfE, aNil, aCons, aTup, aLst, aLstB, aUn, aCa, aSl, aNo, aPart, aM, aML, aRet, aRetN, aIf, aDo, aNext, aCont, aBrk, aAsg, aCall, aCallX, aMeth, aFld, aSetFld, aFldAug, aAug, aRaise, aMake, aYes, kName, kCons, kNil, kSub, nth, put, wipeD, asT_b, fAdd_i, fAdd_s, fAdd_t, fAdd_l, fSub_i, fLt_i, fLe_i, fGt_i, fGe_i, fMul_i, fMod_i, fFdiv_i, fPow_i, fNeg_i, fEq_i, fEq_s, fEq_b, fNe_i, fNe_s, fNe_b, fIn_s, fNi_s, fIx_t0, fIx_t1, fIx_t2, fIx_l0, fIx_l1, fSl_s, fSl_t, fSl_l, fLen_t, fLen_l, fInt_i, fAbs_i, fMax_i, fMin_i, fTuple_t, fTuple_l, fList_t, fList_l, fRepS_s, seqOf_t, seqOf_l, truD_b, truD_t, truD_l, kTup_t, fIsN_n, fIsi_non_int, fIsi_non_bool, fIsi_non_str, fIsi_non_tuple, fIsi_non_list, fIsi_bl_int, fIsi_bl_bool, fIsi_bl_str, fIsi_bl_tuple, fIsi_bl_list, fIsi_int_int, fIsi_int_bool, fIsi_int_str, fIsi_int_tuple, fIsi_int_list, fIsi_str_int, fIsi_str_bool, fIsi_str_str, fIsi_str_tuple, fIsi_str_list, fIsi_tup_int, fIsi_tup_bool, fIsi_tup_str, fIsi_tup_tuple, fIsi_tup_list, fIsi_lst_int, fIsi_lst_bool, fIsi_lst_str, fIsi_lst_tuple, fIsi_lst_list, isN, fIx_sy0, fIx_sy1, ite_tt, ite_ff]
      simp only [Bool.not_true, Bool.false_eq_true, if_false]
      exact ⟨inv10, by trivial⟩
  rintro g m11 ⟨inv11, rfl⟩
  -- the least
  obtain ⟨r1, ch1, ech⟩ : ∃ r t, ch = r :: t := by
    cases ch with
    | nil => simp at hchp
    | cons r t => exact ⟨r, t, rfl⟩
  have hle : leastOf ch r1 := by
    have := hch.asc
    rw [ech] at this ⊢
    exact asc_least this
  have lo : ∀ (l : List Rw) (m : Mu) (P : PD), l ≠ [] → (∀ x, x ∈ ch ↔ x ∈ l) → P (rowD r1) m → sp_least_of [rowsD l] m P fun _ _ _ => False := fun l m P hn hm hp =>
    ⟨l, rfl, fun z => absurd z hn, fun x hx => by rw [least_uniq hx (least_of_mem hle hm)]; exact hp⟩
  let nx : D := secD ch1
  have lastI : atI (rows.map rowD) (-1) = some (rowD (rows.getLast hrows.ne)) := by
    conv => lhs; rw [← List.dropLast_concat_getLast hrows.ne, List.map_append]
    exact atI_last
  have yl : ∀ {m : Mu} {P : PD}, fIx (.lst (rows.map rowD)) (.int (-1)) m P = P (rowD (rows.getLast hrows.ne)) m := fIx_l lastI
  have hlast := (htree _ (List.getLast_mem hrows.ne)).2
  generalize rows.getLast hrows.ne = rl at *
  refine ⟨fun g m12 => (TapeIn m12 c s ∧ Sub m m12) ∧ g = [some (.scr ns), some (tapeD c s), some (.lst (ms.map syD)), some (.lst (rows.map rowD)), some (rowsD ch), a5, a6, some (.int (t : Int)), some (rowsD tu), some (.tup [rowD r1, rowD r1, rowD rl, .non, .tup [], nx]), a11], ?_, ?_⟩
  · simp only [aSeq, aSet, aC, aVar, aOp, aTest, aTru, aAnd, aOr, aNot, aAndV, aOrV, aNotV, aIfE, aNil, aCons, aTup, aLst, aLstB, aUn, aCa, aSl, aNo, aPart, aM, aML, aRet, aRetN, aIf, aDo, aNext, aCont, aBrk, aAsg, aCall, aCallX, aMeth, aFld, aSetFld, aFldAug, aAug, aRaise, aMake, aYes, kName, kCons, kNil, kSub, nth, put, wipeD, asT_b, fAdd_i, fAdd_s, fAdd_t, fAdd_l, fSub_i, fLt_i, fLe_i, fGt_i, fGe_i, fMul_i, fMod_i, fFdiv_i, fPow_i, fNeg_i, fEq_i, fEq_s, fEq_b, fNe_i, fNe_s, fNe_b, fIn_s, fNi_s, fIx_t0, fIx_t1, fIx_t2, fIx_l0, fIx_l1, fSl_s, fSl_t, fSl_l, fLen_t, fLen_l, fInt_i, fAbs_i, fMax_i, fMin_i, fTuple_t, fTuple_l, fList_t, fList_l, fRepS_s, seqOf_t, seqOf_l, truD_b, truD_t, truD_l, kTup_t, fIsN_n, fIsi_non_int, fIsi_non_bool, fIsi_non_str, fIsi_non_tuple, fIsi_non_list, fIsi_bl_int, fIsi_bl_bool, fIsi_bl_str, fIsi_bl_tuple, fIsi_bl_list, fIsi_int_int, fIsi_int_bool, fIsi_int_str, fIsi_int_tuple, fIsi_int_list, fIsi_str_int, fIsi_str_bool, fIsi_str_str, fIsi_str_tuple, fIsi_str_list, fIsi_tup_int, fIsi_tup_bool, fIsi_tup_str, fIsi_tup_tuple, fIsi_tup_list, fIsi_lst_int, fIsi_lst_bool, fIsi_lst_str, fIsi_lst_tuple, fIsi_lst_list, isN, fIx_sy0, fIx_sy1, ite_tt, ite_ff, aRevT, tupR, revR, yl]
    refine lo tu _ _ (fun z => by rw [z] at htl; simp at htl; omega) (fun x => (hch.mem x).trans (htm x)) ?_
    refine lo ch.reverse _ _ (fun z => by rw [List.reverse_eq_nil_iff] at z; rw [z] at hchp; simp at hchp) (fun x => List.mem_reverse.symm) ?_
    refine ⟨by simp, [rl], rfl, fun z => by simp at z, fun x hx => ?_⟩
    rw [List.mem_singleton.mp hx.1]
    refine ⟨by simp, [], rfl, fun _ => ?_, fun x hx => absurd hx.1 (by simp)⟩
    refine ⟨by simp, [], rfl, by simp, fun ch' h' => ?_⟩
    have e1 : ch' = [] := chain_uniq h' ⟨List.Pairwise.nil, fun x => by simp⟩
    rw [e1]
    have eS : ∀ (m : Mu) (P : PD), fSl (rowsD ch) (some 1) none m P = P (rowsD ch1) m := fun m P => by
      have : fSl (rowsD ch) (some ((1 : Nat) : Int)) none m P = P (.tup (cutD (ch.map rowD) (some ((1 : Nat) : Int)) none)) m := fSl_t
      rw [show (some (1 : Int)) = some ((1 : Nat) : Int) from rfl, this, cutD_n, ech]
      rfl
    show fSl (rowsD ch) (some 1) none m11 _
    rw [eS]
    have hasc1 : AscR ch1 := by
      have := hch.asc
      rw [ech] at this
      exact (List.pairwise_cons.mp this).2
    have fin : ∀ d : D, d = nx → (TapeIn m11 c s ∧ Sub m m11) ∧ [some (D.scr ns), some (tapeD c s), some (.lst (ms.map syD)), some (.lst (rows.map rowD)), some (rowsD ch), a5, a6, some (.int (t : Int)), some (rowsD tu), some (.tup [rowD r1, rowD r1, rowD rl, .non, rowsD [], d]), a11] = [some (D.scr ns), some (tapeD c s), some (.lst (ms.map syD)), some (.lst (rows.map rowD)), some (rowsD ch), a5, a6, some (.int (t : Int)), some (rowsD tu), some (.tup [rowD r1, rowD r1, rowD rl, .non, .tup [], nx]), a11] := fun d hd => by
      rw [hd]
      exact ⟨inv11, rfl⟩
    refine ⟨ch1, rfl, fun z => ⟨by simp, fin _ ?_⟩, fun x hx => ⟨by simp, fin _ ?_⟩⟩
    · show _ = (secD ch1)
      rw [z]
      rfl
    · show _ = (secD ch1)
      cases ch1 with
      | nil => exact absurd hx.1 (by simp)
      | cons r2 t2 =>
        rw [least_uniq hx (asc_least hasc1)]
        rfl
  rintro g m12 ⟨inv12, rfl⟩
  have g0 : ch[0]? = some r1 := by rw [ech]; rfl
  have x0 : ∀ {m : Mu} {P : PD}, fIx (rowsD ch) (.int 0) m P = P (rowD r1) m := fIx_rows (i := 0) g0
  have hr1 := (hchm r1 (by rw [ech]; exact List.mem_cons_self)).2
  have eN : ∀ (m : Mu) (P : PD), fAdd (rowsD ch) (.tup [.non]) m P = ((ch.map rowD).length + 1 ≤ 100000 ∧ P (.tup (ch.map rowD ++ [.non])) m) := fun m P => fAdd_t
  have e1 : atI (ch.map rowD ++ [.non]) 1 = some nx := by
    rw [ech]
    show atI _ _ = some (secD ch1)
    cases ch1 with
    | nil => exact atI_i (i := 1) rfl rfl
    | cons r2 t2 => exact atI_i (i := 1) rfl rfl
  have pn : pure? nx = true ∧ dsize nx ≤ 91 := by
    show pure? (secD ch1) = true ∧ dsize (secD ch1) ≤ 91
    cases ch1 with
    | nil => exact ⟨rfl, by show (1 : Nat) ≤ 91; decide⟩
    | cons r2 t2 =>
      have := (hchm r2 (by rw [ech]; simp)).2
      refine ⟨row_pure r2, ?_⟩
      show dsize (rowD r2) ≤ 91
      rw [row_size]
      omega
  generalize nx = nx at *
  simp only [aSeq, aSet, aC, aVar, aOp, aTest, aTru, aAnd, aOr, aNot, aAndV, aOrV, aNotV, aIfE, aNil, aCons, aTup, aLst, aLstB, aUn, aCa, aSl, aNo, aPart, aM, aML, aRet, aRetN, aIf, aDo, aNext, aCont, aBrk, aAsg, aCall, aCallX, aMeth, aFld, aSetFld, aFldAug, aAug, aRaise, aMake, aYes, kName, kCons, kNil, kSub, nth, put, wipeD, asT_b, fAdd_i, fAdd_s, fAdd_t, fAdd_l, fSub_i, fLt_i, fLe_i, fGt_i, fGe_i, fMul_i, fMod_i, fFdiv_i, fPow_i, fNeg_i, fEq_i, fEq_s, fEq_b, fNe_i, fNe_s, fNe_b, fIn_s, fNi_s, fIx_t0, fIx_t1, fIx_t2, fIx_l0, fIx_l1, fSl_s, fSl_t, fSl_l, fLen_t, fLen_l, fInt_i, fAbs_i, fMax_i, fMin_i, fTuple_t, fTuple_l, fList_t, fList_l, fRepS_s, seqOf_t, seqOf_l, truD_b, truD_t, truD_l, kTup_t, fIsN_n, fIsi_non_int, fIsi_non_bool, fIsi_non_str, fIsi_non_tuple, fIsi_non_list, fIsi_bl_int, fIsi_bl_bool, fIsi_bl_str, fIsi_bl_tuple, fIsi_bl_list, fIsi_int_int, fIsi_int_bool, fIsi_int_str, fIsi_int_tuple, fIsi_int_list, fIsi_str_int, fIsi_str_bool, fIsi_str_str, fIsi_str_tuple, fIsi_str_list, fIsi_tup_int, fIsi_tup_bool, fIsi_tup_str, fIsi_tup_tuple, fIsi_tup_list, fIsi_lst_int, fIsi_lst_bool, fIsi_lst_str, fIsi_lst_tuple, fIsi_lst_list, isN, fIx_sy0, fIx_sy1, ite_tt, ite_ff, yl, x0, eN, fIx_t e1]
  refine ⟨by simp, by simp, by rw [List.length_map]; omega, by simp, _, rfl, ?_, ?_, ?_⟩
  · show (pure? (rowD r1) && (pure? (rowD r1) && (pure? (rowD rl) && (true && (true && (pure? nx && true)))))) = true
    rw [row_pure, row_pure, pn.1]
    rfl
  · show dsize (rowD r1) + (dsize (rowD r1) + (dsize (rowD rl) + (1 + ((0 + 1) + (dsize nx + 0))))) + 1 ≤ 90000
    have := pn.2
    rw [row_size, row_size]
    omega
  · exact fzE.sub inv12.2 hq
end AL
set_option maxHeartbeats 4000000
namespace AL
open PySem L2 Evl
abbrev s_NotUsable_init : Stmt := L2.inClass (topS 3) 0
theorem sc_NotUsable_init : L2.FnScope ["self", "word", "at"] ["self", "word", "at"] (defScope s_NotUsable_init) := ⟨rfl, rfl, rfl, by decide +kernel, rfl, by decide +kernel, by decide +kernel⟩
theorem ok_NotUsable_init {P : Program} {w : World} {K : PySem.W.Frag} {mg : Str → Option Value} {base : Heap} {C f : Addr} {fd : FuncData} (F : L2.Fun K "__init__" "NotUsable.__init__" s_NotUsable_init f fd) (T : OexC K C) (n1 : PySem.W.findIn K (.ref C) "word" = some none) (n2 : PySem.W.findIn K (.ref C) "at" = some none) :
    FnOk P w K mg base (L2.CX P w) 1 f fd ["self", "word", "at"] (spI2 "word" "at" C) := by
  refine F.okX sc_NotUsable_init (fun vs H Q E h => ?_) (fun cdv A outer s H vs Q E hr h => ⟨_, pss_cons (ps_ost (pv 0) (pv 1)) (pss_one (ps_ost (pv 0) (pv 2))), ?_⟩)
  · obtain ⟨a, v1, v2, rfl, _⟩ := h
    rfl
  · obtain ⟨a, v1, v2, rfl, ha, hq⟩ := h
    exact ⟨v1, rfl, .ref a, rfl, a, C, rfl, T, n1, .inl ⟨ha, fun dx hd ne => ⟨v2, rfl, .ref a, rfl, a, C, rfl, T, n2, .inr ⟨dx, _, upd_same, (upd_ne ne).trans upd_same, by show 1 ≤ 900; decide, hq dx hd ne⟩⟩⟩⟩
theorem exm_self {K : PySem.W.Frag} {S : Addr} (h1 : PySem.W.subIn K (.ref S) (.type "BaseException") = some true) (h2 : PySem.W.isClsIn K S = true) (h3 : PySem.W.typeIn K (.ref S) = some (.type "type")) (h4 : PySem.W.subIn K (.ref S) (.ref S) = some true) :
    PySem.W.exmOne K (.ref S) (.ref S) = some true := by
  have e1 : (PySem.W.subIn K (.ref S) (.type "BaseException") == some true) = true := by rw [h1] <;> rfl
  have e2 : ((PySem.W.clsIn K S).isSome && PySem.W.typeIn K (.ref S) == some (.type "type")) = true := by
    have h2' : (PySem.W.clsIn K S).isSome = true := h2
    rw [h2', h3] <;> rfl
  show (if (PySem.W.subIn K (.ref S) (.type "BaseException") == some true) = true then (if ((PySem.W.clsIn K S).isSome && PySem.W.typeIn K (.ref S) == some (.type "type")) = true then PySem.W.subIn K (.ref S) (.ref S) else none) else none) = some true
  rw [if_pos e1, if_pos e2]
  exact h4
theorem kit_sub {K : PySem.W.Frag} {C S : Addr} (h2 : PySem.W.isClsIn K S = true) (h3 : PySem.W.typeIn K (.ref S) = some (.type "type")) (h4 : PySem.W.subIn K (.ref C) (.ref S) = some true) : PySem.W.kitOne K (.ref C) (.ref S) = some true := by
  have e2 : ((PySem.W.clsIn K S).isSome && PySem.W.typeIn K (.ref S) == some (.type "type")) = true := by
    have h2' : (PySem.W.clsIn K S).isSome = true := h2
    rw [h2', h3] <;> rfl
  unfold PySem.W.kitOne
  split
  · rfl
  · show (if ((PySem.W.clsIn K S).isSome && PySem.W.typeIn K (.ref S) == some (.type "type")) = true then PySem.W.subIn K (.ref C) (.ref S) else none) = some true
    rw [if_pos e2]
    exact h4
theorem exm_no {K : PySem.W.Frag} {C S : Addr} (h1 : PySem.W.subIn K (.ref S) (.type "BaseException") = some true) (h2 : PySem.W.isClsIn K S = true) (h3 : PySem.W.typeIn K (.ref S) = some (.type "type")) (h4 : PySem.W.subIn K (.ref C) (.ref S) = some false) : PySem.W.exmOne K (.ref C) (.ref S) = some false := by
  have e1 : (PySem.W.subIn K (.ref S) (.type "BaseException") == some true) = true := by rw [h1] <;> rfl
  have e2 : ((PySem.W.clsIn K S).isSome && PySem.W.typeIn K (.ref S) == some (.type "type")) = true := by
    have h2' : (PySem.W.clsIn K S).isSome = true := h2
    rw [h2', h3] <;> rfl
  show (if (PySem.W.subIn K (.ref S) (.type "BaseException") == some true) = true then (if ((PySem.W.clsIn K S).isSome && PySem.W.typeIn K (.ref S) == some (.type "type")) = true then PySem.W.subIn K (.ref C) (.ref S) else none) else none) = some false
  rw [if_pos e1, if_pos e2]
  exact h4
theorem all_mk {P : Program} {w : World} {K : PySem.W.Frag} {h : Heap} {mg : Str → Option Value} {fa : Addr} (X : K.In h) (G : h.Ns mainGlobals mg) (hfa : mg "law" = some (.ref fa))
    {C_NotUsable C_UseError A_law_tape A_law_pick A_law_marks A_law_more A_law_tree A_law_far A_law_twin A_law_rows A_law_numbers A_law_before A_law_sorted A_law_same A_need A_is_number A_is_hole A_is_word A_is_number_to A_is_symbol A_fault_of A_is_tree A_order_key A_is_ahead A_is_node A_end_of A_with_piece A_law_wholes A_law_asks A_law_refusals A_in_order A_least_of A_law A_NotUsable_init A_cHOLE b_NotUsable_UseError b_NotUsable_StoodError : Addr} {oc_NotUsable_init kV_NotUsable_init dc_NotUsable_init pm_NotUsable_init cd_NotUsable_init ct_NotUsable_init oc_law_tape kV_law_tape dc_law_tape pm_law_tape cd_law_tape ct_law_tape oc_law_pick kV_law_pick dc_law_pick pm_law_pick cd_law_pick ct_law_pick oc_law_marks kV_law_marks dc_law_marks pm_law_marks cd_law_marks ct_law_marks oc_law_more kV_law_more dc_law_more pm_law_more cd_law_more ct_law_more oc_law_tree kV_law_tree dc_law_tree pm_law_tree cd_law_tree ct_law_tree oc_law_far kV_law_far dc_law_far pm_law_far cd_law_far ct_law_far oc_law_twin kV_law_twin dc_law_twin pm_law_twin cd_law_twin ct_law_twin oc_law_rows kV_law_rows dc_law_rows pm_law_rows cd_law_rows ct_law_rows oc_law_numbers kV_law_numbers dc_law_numbers pm_law_numbers cd_law_numbers ct_law_numbers oc_law_before kV_law_before dc_law_before pm_law_before cd_law_before ct_law_before oc_law_sorted kV_law_sorted dc_law_sorted pm_law_sorted cd_law_sorted ct_law_sorted oc_law_same kV_law_same dc_law_same pm_law_same cd_law_same ct_law_same oc_need kV_need dc_need pm_need cd_need ct_need oc_is_number kV_is_number dc_is_number pm_is_number cd_is_number ct_is_number oc_is_hole kV_is_hole dc_is_hole pm_is_hole cd_is_hole ct_is_hole oc_is_word kV_is_word dc_is_word pm_is_word cd_is_word ct_is_word oc_is_number_to kV_is_number_to dc_is_number_to pm_is_number_to cd_is_number_to ct_is_number_to oc_is_symbol kV_is_symbol dc_is_symbol pm_is_symbol cd_is_symbol ct_is_symbol oc_fault_of kV_fault_of dc_fault_of pm_fault_of cd_fault_of ct_fault_of oc_is_tree kV_is_tree dc_is_tree pm_is_tree cd_is_tree ct_is_tree oc_order_key kV_order_key dc_order_key pm_order_key cd_order_key ct_order_key oc_is_ahead kV_is_ahead dc_is_ahead pm_is_ahead cd_is_ahead ct_is_ahead oc_is_node kV_is_node dc_is_node pm_is_node cd_is_node ct_is_node oc_end_of kV_end_of dc_end_of pm_end_of cd_end_of ct_end_of oc_with_piece kV_with_piece dc_with_piece pm_with_piece cd_with_piece ct_with_piece oc_law_wholes kV_law_wholes dc_law_wholes pm_law_wholes cd_law_wholes ct_law_wholes oc_law_asks kV_law_asks dc_law_asks pm_law_asks cd_law_asks ct_law_asks oc_law_refusals kV_law_refusals dc_law_refusals pm_law_refusals cd_law_refusals ct_law_refusals oc_in_order kV_in_order dc_in_order pm_in_order cd_in_order ct_in_order oc_least_of kV_least_of dc_least_of pm_least_of cd_least_of ct_least_of oc_law kV_law dc_law pm_law cd_law ct_law : Value} {gd_HOLE od_NotUsable_init an_NotUsable_init od_law_tape an_law_tape od_law_pick an_law_pick od_law_marks an_law_marks od_law_more an_law_more od_law_tree an_law_tree od_law_far an_law_far od_law_twin an_law_twin od_law_rows an_law_rows od_law_numbers an_law_numbers od_law_before an_law_before od_law_sorted an_law_sorted od_law_same an_law_same od_need an_need od_is_number an_is_number od_is_hole an_is_hole od_is_word an_is_word od_is_number_to an_is_number_to od_is_symbol an_is_symbol od_fault_of an_fault_of od_is_tree an_is_tree od_order_key an_order_key od_is_ahead an_is_ahead od_is_node an_is_node od_end_of an_end_of od_with_piece an_with_piece od_law_wholes an_law_wholes od_law_asks an_law_asks od_law_refusals an_law_refusals od_in_order an_in_order od_least_of an_least_of od_law an_law : Option Addr} {sl_NotUsable_init sl_law_tape sl_law_pick sl_law_marks sl_law_more sl_law_tree sl_law_far sl_law_twin sl_law_rows sl_law_numbers sl_law_before sl_law_sorted sl_law_same sl_need sl_is_number sl_is_hole sl_is_word sl_is_number_to sl_is_symbol sl_fault_of sl_is_tree sl_order_key sl_is_ahead sl_is_node sl_end_of sl_with_piece sl_law_wholes sl_law_asks sl_law_refusals sl_in_order sl_least_of sl_law : Array (Option Value)} {tk_HOLE_0 tk_HOLE_1 tk_LETTERS tk_LONGEST_WORD tk_MOST_PARTS tk_SILENT tk_WORD_SIGNS : Tok} {gn_HOLE : Nat} {gs_HOLE : Array (Option Value)} {nm_NotUsable q_NotUsable : Str} {N_NotUsable : Addr} {bs_NotUsable : List Value} {sn_NotUsable : List Str} {su_NotUsable : List Value} {ab_NotUsable : Bool} {co_NotUsable : Option Bool} {dd_NotUsable : Option Addr} {m0_NotUsable m1_NotUsable m2_NotUsable m3_NotUsable m5_NotUsable : Option Value}
    (aNotUsable : PySem.W.nsIn K mainGlobals "NotUsable" = some (some (.ref C_NotUsable)))
    (aUseError : PySem.W.nsIn K mainGlobals "UseError" = some (some (.ref C_UseError)))
    (g_HOLE : PySem.W.nsIn K mainGlobals "HOLE" = some (some (.ref A_cHOLE)))
    (gl_HOLE : K.lookup A_cHOLE = some ⟨.type "tuple", gd_HOLE, .seq #[.str "?" tk_HOLE_0, .int 0 tk_HOLE_1] gn_HOLE, gs_HOLE⟩)
    (g_LETTERS : PySem.W.nsIn K mainGlobals "LETTERS" = some (some (.str "abcdefghijklmnopqrstuvwxyz" tk_LETTERS)))
    (g_LONGEST_WORD : PySem.W.nsIn K mainGlobals "LONGEST_WORD" = some (some (.int 16 tk_LONGEST_WORD)))
    (g_MOST_PARTS : PySem.W.nsIn K mainGlobals "MOST_PARTS" = some (some (.int 4 tk_MOST_PARTS)))
    (g_SILENT : PySem.W.nsIn K mainGlobals "SILENT" = some (some (.str "." tk_SILENT)))
    (g_WORD_SIGNS : PySem.W.nsIn K mainGlobals "WORD_SIGNS" = some (some (.str "abcdefghijklmnopqrstuvwxyz0123456789-" tk_WORD_SIGNS)))
    (z_len : PySem.W.nsIn K mainGlobals "len" = some none)
    (z_int : PySem.W.nsIn K mainGlobals "int" = some none)
    (z_abs : PySem.W.nsIn K mainGlobals "abs" = some none)
    (z_max : PySem.W.nsIn K mainGlobals "max" = some none)
    (z_min : PySem.W.nsIn K mainGlobals "min" = some none)
    (z_bool : PySem.W.nsIn K mainGlobals "bool" = some none)
    (z_str : PySem.W.nsIn K mainGlobals "str" = some none)
    (z_tuple : PySem.W.nsIn K mainGlobals "tuple" = some none)
    (z_list : PySem.W.nsIn K mainGlobals "list" = some none)
    (z_range : PySem.W.nsIn K mainGlobals "range" = some none)
    (z_isinstance : PySem.W.nsIn K mainGlobals "isinstance" = some none)
    (z_all : PySem.W.nsIn K mainGlobals "all" = some none)
    (z_any : PySem.W.nsIn K mainGlobals "any" = some none)
    (z_ord : PySem.W.nsIn K mainGlobals "ord" = some none)
    (z_enumerate : PySem.W.nsIn K mainGlobals "enumerate" = some none)
    (z_sorted : PySem.W.nsIn K mainGlobals "sorted" = some none)
    (z_set : PySem.W.nsIn K mainGlobals "set" = some none)
    (z_zip : PySem.W.nsIn K mainGlobals "zip" = some none)
    (z_sum : PySem.W.nsIn K mainGlobals "sum" = some none)
    (z_reversed : PySem.W.nsIn K mainGlobals "reversed" = some none)
    (z_repr : PySem.W.nsIn K mainGlobals "repr" = some none)
    (gaNotUsable : PySem.W.findIn K (.ref C_NotUsable) "__getattribute__" = some (some (.builtin "BaseException.__getattribute__")))
    (ggNotUsable : PySem.W.findIn K (.ref C_NotUsable) "__getattr__" = some none)
    (eCNotUsable : PySem.W.subIn K (.ref C_NotUsable) (.type "BaseException") = some true)
    (tCNotUsable : PySem.W.typeIn K (.ref C_NotUsable) = some (.type "type"))
    (hCNotUsable : PySem.W.hasDictIn K C_NotUsable = true)
    (iCNotUsable : PySem.W.isClsIn K C_NotUsable = true)
    (sCNotUsable : PySem.W.subIn K (.ref C_NotUsable) (.ref C_NotUsable) = some true)
    (kCNotUsable : PySem.W.keepIn K (.ref C_NotUsable) = true)
    (xLNotUsable : K.lookup C_NotUsable = some (excClassObj nm_NotUsable q_NotUsable C_NotUsable N_NotUsable bs_NotUsable [.ref b_NotUsable_UseError, .ref b_NotUsable_StoodError, .type "ValueError", .type "Exception", .type "BaseException", .type "object"] true sn_NotUsable su_NotUsable ab_NotUsable co_NotUsable dd_NotUsable m0_NotUsable m1_NotUsable m2_NotUsable m3_NotUsable m5_NotUsable "ValueError.__new__"))
    (saNotUsable : PySem.W.findIn K (.ref C_NotUsable) "__setattr__" = some (some (.builtin "object.__setattr__")))
    (na_NotUsable_word : PySem.W.findIn K (.ref C_NotUsable) "word" = some none)
    (na_NotUsable_at : PySem.W.findIn K (.ref C_NotUsable) "at" = some none)
    (i_NotUsable : PySem.W.findIn K (.ref C_NotUsable) "__init__" = some (some (.ref A_NotUsable_init)))
    (ti_NotUsable : PySem.W.typeIn K (.ref A_NotUsable_init) = some (.type "function"))
    (l_NotUsable_init : K.lookup A_NotUsable_init = some ⟨oc_NotUsable_init, od_NotUsable_init, .func (PySem.W.fnOf "__init__" "NotUsable.__init__" (defArgs s_NotUsable_init) (defBody s_NotUsable_init) (defScope s_NotUsable_init) .none kV_NotUsable_init dc_NotUsable_init pm_NotUsable_init an_NotUsable_init cd_NotUsable_init ct_NotUsable_init), sl_NotUsable_init⟩)
    (c_NotUsable_init : PySem.W.codeIn K cd_NotUsable_init "NotUsable.__init__" = true)
    (k_NotUsable_init : PySem.W.keepIn K (.ref A_NotUsable_init) = true)
    (er_sg : PySem.W.specialIn K (.builtin "object.__class__") "__get__" = some (some (.builtin "getset_descriptor.__get__")))
    (er_tk : PySem.W.takesIn K (.builtin "object.__class__") = some true)
    (caNotUsable : PySem.W.findIn K (.ref C_NotUsable) "__class__" = some (some (.builtin "object.__class__")))
    (obNotUsable : PySem.W.mroIn K C_NotUsable (.type "object") = some true)
    (iDNotUsable_UseError : PySem.W.isClsIn K C_UseError = true)
    (tDNotUsable_UseError : PySem.W.typeIn K (.ref C_UseError) = some (.type "type"))
    (sDNotUsable_UseError : PySem.W.subIn K (.ref C_NotUsable) (.ref C_UseError) = some true)
    (a_law_tape : PySem.W.nsIn K mainGlobals "_law_tape" = some (some (.ref A_law_tape)))
    (l_law_tape : K.lookup A_law_tape = some ⟨oc_law_tape, od_law_tape, .func (PySem.W.fnOf "_law_tape" "_law_tape" (defArgs s_law_tape) (defBody s_law_tape) (defScope s_law_tape) .none kV_law_tape dc_law_tape pm_law_tape an_law_tape cd_law_tape ct_law_tape), sl_law_tape⟩)
    (c_law_tape : PySem.W.codeIn K cd_law_tape "_law_tape" = true)
    (k_law_tape : PySem.W.keepIn K (.ref A_law_tape) = true)
    (a_law_pick : PySem.W.nsIn K mainGlobals "_law_pick" = some (some (.ref A_law_pick)))
    (l_law_pick : K.lookup A_law_pick = some ⟨oc_law_pick, od_law_pick, .func (PySem.W.fnOf "_law_pick" "_law_pick" (defArgs s_law_pick) (defBody s_law_pick) (defScope s_law_pick) .none kV_law_pick dc_law_pick pm_law_pick an_law_pick cd_law_pick ct_law_pick), sl_law_pick⟩)
    (c_law_pick : PySem.W.codeIn K cd_law_pick "_law_pick" = true)
    (k_law_pick : PySem.W.keepIn K (.ref A_law_pick) = true)
    (a_law_marks : PySem.W.nsIn K mainGlobals "_law_marks" = some (some (.ref A_law_marks)))
    (l_law_marks : K.lookup A_law_marks = some ⟨oc_law_marks, od_law_marks, .func (PySem.W.fnOf "_law_marks" "_law_marks" (defArgs s_law_marks) (defBody s_law_marks) (defScope s_law_marks) .none kV_law_marks dc_law_marks pm_law_marks an_law_marks cd_law_marks ct_law_marks), sl_law_marks⟩)
    (c_law_marks : PySem.W.codeIn K cd_law_marks "_law_marks" = true)
    (k_law_marks : PySem.W.keepIn K (.ref A_law_marks) = true)
    (a_law_more : PySem.W.nsIn K mainGlobals "_law_more" = some (some (.ref A_law_more)))
    (l_law_more : K.lookup A_law_more = some ⟨oc_law_more, od_law_more, .func (PySem.W.fnOf "_law_more" "_law_more" (defArgs s_law_more) (defBody s_law_more) (defScope s_law_more) .none kV_law_more dc_law_more pm_law_more an_law_more cd_law_more ct_law_more), sl_law_more⟩)
    (c_law_more : PySem.W.codeIn K cd_law_more "_law_more" = true)
    (k_law_more : PySem.W.keepIn K (.ref A_law_more) = true)
    (a_law_tree : PySem.W.nsIn K mainGlobals "_law_tree" = some (some (.ref A_law_tree)))
    (l_law_tree : K.lookup A_law_tree = some ⟨oc_law_tree, od_law_tree, .func (PySem.W.fnOf "_law_tree" "_law_tree" (defArgs s_law_tree) (defBody s_law_tree) (defScope s_law_tree) .none kV_law_tree dc_law_tree pm_law_tree an_law_tree cd_law_tree ct_law_tree), sl_law_tree⟩)
    (c_law_tree : PySem.W.codeIn K cd_law_tree "_law_tree" = true)
    (k_law_tree : PySem.W.keepIn K (.ref A_law_tree) = true)
    (a_law_far : PySem.W.nsIn K mainGlobals "_law_far" = some (some (.ref A_law_far)))
    (l_law_far : K.lookup A_law_far = some ⟨oc_law_far, od_law_far, .func (PySem.W.fnOf "_law_far" "_law_far" (defArgs s_law_far) (defBody s_law_far) (defScope s_law_far) .none kV_law_far dc_law_far pm_law_far an_law_far cd_law_far ct_law_far), sl_law_far⟩)
    (c_law_far : PySem.W.codeIn K cd_law_far "_law_far" = true)
    (k_law_far : PySem.W.keepIn K (.ref A_law_far) = true)
    (a_law_twin : PySem.W.nsIn K mainGlobals "_law_twin" = some (some (.ref A_law_twin)))
    (l_law_twin : K.lookup A_law_twin = some ⟨oc_law_twin, od_law_twin, .func (PySem.W.fnOf "_law_twin" "_law_twin" (defArgs s_law_twin) (defBody s_law_twin) (defScope s_law_twin) .none kV_law_twin dc_law_twin pm_law_twin an_law_twin cd_law_twin ct_law_twin), sl_law_twin⟩)
    (c_law_twin : PySem.W.codeIn K cd_law_twin "_law_twin" = true)
    (k_law_twin : PySem.W.keepIn K (.ref A_law_twin) = true)
    (a_law_rows : PySem.W.nsIn K mainGlobals "_law_rows" = some (some (.ref A_law_rows)))
    (l_law_rows : K.lookup A_law_rows = some ⟨oc_law_rows, od_law_rows, .func (PySem.W.fnOf "_law_rows" "_law_rows" (defArgs s_law_rows) (defBody s_law_rows) (defScope s_law_rows) .none kV_law_rows dc_law_rows pm_law_rows an_law_rows cd_law_rows ct_law_rows), sl_law_rows⟩)
    (c_law_rows : PySem.W.codeIn K cd_law_rows "_law_rows" = true)
    (k_law_rows : PySem.W.keepIn K (.ref A_law_rows) = true)
    (a_law_numbers : PySem.W.nsIn K mainGlobals "_law_numbers" = some (some (.ref A_law_numbers)))
    (l_law_numbers : K.lookup A_law_numbers = some ⟨oc_law_numbers, od_law_numbers, .func (PySem.W.fnOf "_law_numbers" "_law_numbers" (defArgs s_law_numbers) (defBody s_law_numbers) (defScope s_law_numbers) .none kV_law_numbers dc_law_numbers pm_law_numbers an_law_numbers cd_law_numbers ct_law_numbers), sl_law_numbers⟩)
    (c_law_numbers : PySem.W.codeIn K cd_law_numbers "_law_numbers" = true)
    (k_law_numbers : PySem.W.keepIn K (.ref A_law_numbers) = true)
    (a_law_before : PySem.W.nsIn K mainGlobals "_law_before" = some (some (.ref A_law_before)))
    (l_law_before : K.lookup A_law_before = some ⟨oc_law_before, od_law_before, .func (PySem.W.fnOf "_law_before" "_law_before" (defArgs s_law_before) (defBody s_law_before) (defScope s_law_before) .none kV_law_before dc_law_before pm_law_before an_law_before cd_law_before ct_law_before), sl_law_before⟩)
    (c_law_before : PySem.W.codeIn K cd_law_before "_law_before" = true)
    (k_law_before : PySem.W.keepIn K (.ref A_law_before) = true)
    (a_law_sorted : PySem.W.nsIn K mainGlobals "_law_sorted" = some (some (.ref A_law_sorted)))
    (l_law_sorted : K.lookup A_law_sorted = some ⟨oc_law_sorted, od_law_sorted, .func (PySem.W.fnOf "_law_sorted" "_law_sorted" (defArgs s_law_sorted) (defBody s_law_sorted) (defScope s_law_sorted) .none kV_law_sorted dc_law_sorted pm_law_sorted an_law_sorted cd_law_sorted ct_law_sorted), sl_law_sorted⟩)
    (c_law_sorted : PySem.W.codeIn K cd_law_sorted "_law_sorted" = true)
    (k_law_sorted : PySem.W.keepIn K (.ref A_law_sorted) = true)
    (a_law_same : PySem.W.nsIn K mainGlobals "_law_same" = some (some (.ref A_law_same)))
    (l_law_same : K.lookup A_law_same = some ⟨oc_law_same, od_law_same, .func (PySem.W.fnOf "_law_same" "_law_same" (defArgs s_law_same) (defBody s_law_same) (defScope s_law_same) .none kV_law_same dc_law_same pm_law_same an_law_same cd_law_same ct_law_same), sl_law_same⟩)
    (c_law_same : PySem.W.codeIn K cd_law_same "_law_same" = true)
    (k_law_same : PySem.W.keepIn K (.ref A_law_same) = true)
    (a_need : PySem.W.nsIn K mainGlobals "need" = some (some (.ref A_need)))
    (l_need : K.lookup A_need = some ⟨oc_need, od_need, .func (PySem.W.fnOf "need" "need" (defArgs s_need) (defBody s_need) (defScope s_need) .none kV_need dc_need pm_need an_need cd_need ct_need), sl_need⟩)
    (c_need : PySem.W.codeIn K cd_need "need" = true)
    (k_need : PySem.W.keepIn K (.ref A_need) = true)
    (a_is_number : PySem.W.nsIn K mainGlobals "is_number" = some (some (.ref A_is_number)))
    (l_is_number : K.lookup A_is_number = some ⟨oc_is_number, od_is_number, .func (PySem.W.fnOf "is_number" "is_number" (defArgs s_is_number) (defBody s_is_number) (defScope s_is_number) .none kV_is_number dc_is_number pm_is_number an_is_number cd_is_number ct_is_number), sl_is_number⟩)
    (c_is_number : PySem.W.codeIn K cd_is_number "is_number" = true)
    (k_is_number : PySem.W.keepIn K (.ref A_is_number) = true)
    (a_is_hole : PySem.W.nsIn K mainGlobals "is_hole" = some (some (.ref A_is_hole)))
    (l_is_hole : K.lookup A_is_hole = some ⟨oc_is_hole, od_is_hole, .func (PySem.W.fnOf "is_hole" "is_hole" (defArgs s_is_hole) (defBody s_is_hole) (defScope s_is_hole) .none kV_is_hole dc_is_hole pm_is_hole an_is_hole cd_is_hole ct_is_hole), sl_is_hole⟩)
    (c_is_hole : PySem.W.codeIn K cd_is_hole "is_hole" = true)
    (k_is_hole : PySem.W.keepIn K (.ref A_is_hole) = true)
    (a_is_word : PySem.W.nsIn K mainGlobals "is_word" = some (some (.ref A_is_word)))
    (l_is_word : K.lookup A_is_word = some ⟨oc_is_word, od_is_word, .func (PySem.W.fnOf "is_word" "is_word" (defArgs s_is_word) (defBody s_is_word) (defScope s_is_word) .none kV_is_word dc_is_word pm_is_word an_is_word cd_is_word ct_is_word), sl_is_word⟩)
    (c_is_word : PySem.W.codeIn K cd_is_word "is_word" = true)
    (k_is_word : PySem.W.keepIn K (.ref A_is_word) = true)
    (a_is_number_to : PySem.W.nsIn K mainGlobals "is_number_to" = some (some (.ref A_is_number_to)))
    (l_is_number_to : K.lookup A_is_number_to = some ⟨oc_is_number_to, od_is_number_to, .func (PySem.W.fnOf "is_number_to" "is_number_to" (defArgs s_is_number_to) (defBody s_is_number_to) (defScope s_is_number_to) .none kV_is_number_to dc_is_number_to pm_is_number_to an_is_number_to cd_is_number_to ct_is_number_to), sl_is_number_to⟩)
    (c_is_number_to : PySem.W.codeIn K cd_is_number_to "is_number_to" = true)
    (k_is_number_to : PySem.W.keepIn K (.ref A_is_number_to) = true)
    (a_is_symbol : PySem.W.nsIn K mainGlobals "is_symbol" = some (some (.ref A_is_symbol)))
    (l_is_symbol : K.lookup A_is_symbol = some ⟨oc_is_symbol, od_is_symbol, .func (PySem.W.fnOf "is_symbol" "is_symbol" (defArgs s_is_symbol) (defBody s_is_symbol) (defScope s_is_symbol) .none kV_is_symbol dc_is_symbol pm_is_symbol an_is_symbol cd_is_symbol ct_is_symbol), sl_is_symbol⟩)
    (c_is_symbol : PySem.W.codeIn K cd_is_symbol "is_symbol" = true)
    (k_is_symbol : PySem.W.keepIn K (.ref A_is_symbol) = true)
    (a_fault_of : PySem.W.nsIn K mainGlobals "fault_of" = some (some (.ref A_fault_of)))
    (l_fault_of : K.lookup A_fault_of = some ⟨oc_fault_of, od_fault_of, .func (PySem.W.fnOf "fault_of" "fault_of" (defArgs s_fault_of) (defBody s_fault_of) (defScope s_fault_of) .none kV_fault_of dc_fault_of pm_fault_of an_fault_of cd_fault_of ct_fault_of), sl_fault_of⟩)
    (c_fault_of : PySem.W.codeIn K cd_fault_of "fault_of" = true)
    (k_fault_of : PySem.W.keepIn K (.ref A_fault_of) = true)
    (a_is_tree : PySem.W.nsIn K mainGlobals "is_tree" = some (some (.ref A_is_tree)))
    (l_is_tree : K.lookup A_is_tree = some ⟨oc_is_tree, od_is_tree, .func (PySem.W.fnOf "is_tree" "is_tree" (defArgs s_is_tree) (defBody s_is_tree) (defScope s_is_tree) .none kV_is_tree dc_is_tree pm_is_tree an_is_tree cd_is_tree ct_is_tree), sl_is_tree⟩)
    (c_is_tree : PySem.W.codeIn K cd_is_tree "is_tree" = true)
    (k_is_tree : PySem.W.keepIn K (.ref A_is_tree) = true)
    (a_order_key : PySem.W.nsIn K mainGlobals "order_key" = some (some (.ref A_order_key)))
    (l_order_key : K.lookup A_order_key = some ⟨oc_order_key, od_order_key, .func (PySem.W.fnOf "order_key" "order_key" (defArgs s_order_key) (defBody s_order_key) (defScope s_order_key) .none kV_order_key dc_order_key pm_order_key an_order_key cd_order_key ct_order_key), sl_order_key⟩)
    (c_order_key : PySem.W.codeIn K cd_order_key "order_key" = true)
    (k_order_key : PySem.W.keepIn K (.ref A_order_key) = true)
    (a_is_ahead : PySem.W.nsIn K mainGlobals "is_ahead" = some (some (.ref A_is_ahead)))
    (l_is_ahead : K.lookup A_is_ahead = some ⟨oc_is_ahead, od_is_ahead, .func (PySem.W.fnOf "is_ahead" "is_ahead" (defArgs s_is_ahead) (defBody s_is_ahead) (defScope s_is_ahead) .none kV_is_ahead dc_is_ahead pm_is_ahead an_is_ahead cd_is_ahead ct_is_ahead), sl_is_ahead⟩)
    (c_is_ahead : PySem.W.codeIn K cd_is_ahead "is_ahead" = true)
    (k_is_ahead : PySem.W.keepIn K (.ref A_is_ahead) = true)
    (a_is_node : PySem.W.nsIn K mainGlobals "is_node" = some (some (.ref A_is_node)))
    (l_is_node : K.lookup A_is_node = some ⟨oc_is_node, od_is_node, .func (PySem.W.fnOf "is_node" "is_node" (defArgs s_is_node) (defBody s_is_node) (defScope s_is_node) .none kV_is_node dc_is_node pm_is_node an_is_node cd_is_node ct_is_node), sl_is_node⟩)
    (c_is_node : PySem.W.codeIn K cd_is_node "is_node" = true)
    (k_is_node : PySem.W.keepIn K (.ref A_is_node) = true)
    (a_end_of : PySem.W.nsIn K mainGlobals "end_of" = some (some (.ref A_end_of)))
    (l_end_of : K.lookup A_end_of = some ⟨oc_end_of, od_end_of, .func (PySem.W.fnOf "end_of" "end_of" (defArgs s_end_of) (defBody s_end_of) (defScope s_end_of) .none kV_end_of dc_end_of pm_end_of an_end_of cd_end_of ct_end_of), sl_end_of⟩)
    (c_end_of : PySem.W.codeIn K cd_end_of "end_of" = true)
    (k_end_of : PySem.W.keepIn K (.ref A_end_of) = true)
    (a_with_piece : PySem.W.nsIn K mainGlobals "with_piece" = some (some (.ref A_with_piece)))
    (l_with_piece : K.lookup A_with_piece = some ⟨oc_with_piece, od_with_piece, .func (PySem.W.fnOf "with_piece" "with_piece" (defArgs s_with_piece) (defBody s_with_piece) (defScope s_with_piece) .none kV_with_piece dc_with_piece pm_with_piece an_with_piece cd_with_piece ct_with_piece), sl_with_piece⟩)
    (c_with_piece : PySem.W.codeIn K cd_with_piece "with_piece" = true)
    (k_with_piece : PySem.W.keepIn K (.ref A_with_piece) = true)
    (a_law_wholes : PySem.W.nsIn K mainGlobals "_law_wholes" = some (some (.ref A_law_wholes)))
    (l_law_wholes : K.lookup A_law_wholes = some ⟨oc_law_wholes, od_law_wholes, .func (PySem.W.fnOf "_law_wholes" "_law_wholes" (defArgs s_law_wholes) (defBody s_law_wholes) (defScope s_law_wholes) .none kV_law_wholes dc_law_wholes pm_law_wholes an_law_wholes cd_law_wholes ct_law_wholes), sl_law_wholes⟩)
    (c_law_wholes : PySem.W.codeIn K cd_law_wholes "_law_wholes" = true)
    (k_law_wholes : PySem.W.keepIn K (.ref A_law_wholes) = true)
    (a_law_asks : PySem.W.nsIn K mainGlobals "_law_asks" = some (some (.ref A_law_asks)))
    (l_law_asks : K.lookup A_law_asks = some ⟨oc_law_asks, od_law_asks, .func (PySem.W.fnOf "_law_asks" "_law_asks" (defArgs s_law_asks) (defBody s_law_asks) (defScope s_law_asks) .none kV_law_asks dc_law_asks pm_law_asks an_law_asks cd_law_asks ct_law_asks), sl_law_asks⟩)
    (c_law_asks : PySem.W.codeIn K cd_law_asks "_law_asks" = true)
    (k_law_asks : PySem.W.keepIn K (.ref A_law_asks) = true)
    (a_law_refusals : PySem.W.nsIn K mainGlobals "_law_refusals" = some (some (.ref A_law_refusals)))
    (l_law_refusals : K.lookup A_law_refusals = some ⟨oc_law_refusals, od_law_refusals, .func (PySem.W.fnOf "_law_refusals" "_law_refusals" (defArgs s_law_refusals) (defBody s_law_refusals) (defScope s_law_refusals) .none kV_law_refusals dc_law_refusals pm_law_refusals an_law_refusals cd_law_refusals ct_law_refusals), sl_law_refusals⟩)
    (c_law_refusals : PySem.W.codeIn K cd_law_refusals "_law_refusals" = true)
    (k_law_refusals : PySem.W.keepIn K (.ref A_law_refusals) = true)
    (a_in_order : PySem.W.nsIn K mainGlobals "in_order" = some (some (.ref A_in_order)))
    (l_in_order : K.lookup A_in_order = some ⟨oc_in_order, od_in_order, .func (PySem.W.fnOf "in_order" "in_order" (defArgs s_in_order) (defBody s_in_order) (defScope s_in_order) .none kV_in_order dc_in_order pm_in_order an_in_order cd_in_order ct_in_order), sl_in_order⟩)
    (c_in_order : PySem.W.codeIn K cd_in_order "in_order" = true)
    (k_in_order : PySem.W.keepIn K (.ref A_in_order) = true)
    (a_least_of : PySem.W.nsIn K mainGlobals "least_of" = some (some (.ref A_least_of)))
    (l_least_of : K.lookup A_least_of = some ⟨oc_least_of, od_least_of, .func (PySem.W.fnOf "least_of" "least_of" (defArgs s_least_of) (defBody s_least_of) (defScope s_least_of) .none kV_least_of dc_least_of pm_least_of an_least_of cd_least_of ct_least_of), sl_least_of⟩)
    (c_least_of : PySem.W.codeIn K cd_least_of "least_of" = true)
    (k_least_of : PySem.W.keepIn K (.ref A_least_of) = true)
    (a_law : PySem.W.nsIn K mainGlobals "law" = some (some (.ref A_law)))
    (l_law : K.lookup A_law = some ⟨oc_law, od_law, .func (PySem.W.fnOf "law" "law" (defArgs s_law) (defBody s_law) (defScope s_law) .none kV_law dc_law pm_law an_law cd_law ct_law), sl_law⟩)
    (c_law : PySem.W.codeIn K cd_law "law" = true)
    (k_law : PySem.W.keepIn K (.ref A_law) = true) :
    ∃ fd : FuncData, (∀ (s : Shared) (v : Value), BindsTo s fd ⟨[v], []⟩ [("script", v)]) ∧ ∀ base : Heap, K.In base → base.Ns mainGlobals mg → FnOk P w K mg base (L2.CX P w) 9 fa fd ["script"] (lift K sp_law) := by
  have e := hfa.symm.trans (PySem.W.mg_of X G a_law)
  cases e
  refine ⟨PySem.W.fnOf "law" "law" (defArgs s_law) (defBody s_law) (defScope s_law) .none kV_law dc_law pm_law an_law cd_law ct_law, fun s v => .of_eq rfl, fun base _ _ => ?_⟩
  have G_HOLE : Glo K mg "HOLE" (.tup [.str "?", .int 0]) := ⟨_, .ref A_cHOLE, PySem.W.mg_of X G g_HOLE, rfl, fun S => ⟨A_cHOLE, [V.str "?", V.int 0], rfl, .inr ⟨_, _, _, gl_HOLE, rfl, rfl, (by show 2 ≤ sizeLine; decide), (.cons ⟨_, rfl⟩ (.cons ⟨_, rfl⟩ .nil))⟩, ⟨_, _, rfl, rfl, ⟨_, _, rfl, rfl, rfl⟩⟩⟩⟩
  have G_LETTERS : Glo K mg "LETTERS" (.str "abcdefghijklmnopqrstuvwxyz") := ⟨_, .str "abcdefghijklmnopqrstuvwxyz", PySem.W.mg_of X G g_LETTERS, ⟨_, rfl⟩, fun _ => rfl⟩
  have G_LONGEST_WORD : Glo K mg "LONGEST_WORD" (.int 16) := ⟨_, .int 16, PySem.W.mg_of X G g_LONGEST_WORD, ⟨_, rfl⟩, fun _ => rfl⟩
  have G_MOST_PARTS : Glo K mg "MOST_PARTS" (.int 4) := ⟨_, .int 4, PySem.W.mg_of X G g_MOST_PARTS, ⟨_, rfl⟩, fun _ => rfl⟩
  have G_SILENT : Glo K mg "SILENT" (.str ".") := ⟨_, .str ".", PySem.W.mg_of X G g_SILENT, ⟨_, rfl⟩, fun _ => rfl⟩
  have G_WORD_SIGNS : Glo K mg "WORD_SIGNS" (.str "abcdefghijklmnopqrstuvwxyz0123456789-") := ⟨_, .str "abcdefghijklmnopqrstuvwxyz0123456789-", PySem.W.mg_of X G g_WORD_SIGNS, ⟨_, rfl⟩, fun _ => rfl⟩
  have T : Bl mg := ⟨PySem.W.mg_none_of X G z_len, PySem.W.mg_none_of X G z_int, PySem.W.mg_none_of X G z_abs, PySem.W.mg_none_of X G z_max, PySem.W.mg_none_of X G z_min, PySem.W.mg_none_of X G z_bool, PySem.W.mg_none_of X G z_str, PySem.W.mg_none_of X G z_tuple, PySem.W.mg_none_of X G z_list, PySem.W.mg_none_of X G z_range, PySem.W.mg_none_of X G z_isinstance, PySem.W.mg_none_of X G z_all, PySem.W.mg_none_of X G z_any, PySem.W.mg_none_of X G z_ord, PySem.W.mg_none_of X G z_enumerate, PySem.W.mg_none_of X G z_sorted, PySem.W.mg_none_of X G z_set, PySem.W.mg_none_of X G z_zip, PySem.W.mg_none_of X G z_sum, PySem.W.mg_none_of X G z_reversed, PySem.W.mg_none_of X G z_repr⟩
  have O_NotUsable : OexC K C_NotUsable := ⟨⟨_, _, _, _, _, _, _, _, _, _, _, _, _, _, _, xLNotUsable, rfl⟩, saNotUsable, eCNotUsable, tCNotUsable, kCNotUsable⟩
  have F_NotUsable_init := fun_mk (st := s_NotUsable_init) l_NotUsable_init c_NotUsable_init k_NotUsable_init
  have R_NotUsable : ErrC P w K mg base "NotUsable" C_NotUsable "word" "at" := ⟨O_NotUsable, PySem.W.mg_of X G aNotUsable, _, _, i_NotUsable, ti_NotUsable, ok_NotUsable_init F_NotUsable_init O_NotUsable na_NotUsable_word na_NotUsable_at, F_NotUsable_init.binds (ps := ["self", "word", "at"]) fun _ _ _ _ _ _ us hl => match us, hl with | [_, _, _], _ => rfl⟩
  have H_NotUsable : HdC K mg "NotUsable" C_NotUsable := ⟨PySem.W.mg_of X G aNotUsable, exm_self eCNotUsable iCNotUsable tCNotUsable sCNotUsable⟩
  have X_NotUsable : XfC K C_NotUsable := ⟨gaNotUsable, ggNotUsable, eCNotUsable, hCNotUsable⟩
  have E_NotUsable : PySem.W.ErC K C_NotUsable := ⟨gaNotUsable, ggNotUsable, eCNotUsable, hCNotUsable, caNotUsable, er_sg, er_tk, obNotUsable⟩
  have kit_NotUsable_UseError := kit_sub iDNotUsable_UseError tDNotUsable_UseError sDNotUsable_UseError
  have F_law_tape := fun_mk (st := s_law_tape) l_law_tape c_law_tape k_law_tape
  have Olaw_tape := fn_ok (P := P) (w := w) (mg := mg) (base := base) (k := 0) (sp := sp_law_tape) F_law_tape sc_law_tape (by intro ds m P W h; unfold sp_law_tape at h; first | (rcases h with ⟨_, rfl, _⟩ | ⟨_, rfl, _⟩ <;> rfl) | (rcases h with ⟨_, rfl, _⟩ | ⟨_, _, rfl, _⟩ <;> rfl) | (rcases h with ⟨_, rfl, _⟩ | ⟨_, _, _, rfl, _⟩ <;> rfl) | (rcases h with ⟨_, _, rfl, _⟩ | ⟨_, rfl, _⟩ <;> rfl) | (rcases h with ⟨_, _, rfl, _⟩ | ⟨_, _, rfl, _⟩ <;> rfl) | (rcases h with ⟨_, _, rfl, _⟩ | ⟨_, _, _, rfl, _⟩ <;> rfl) | (rcases h with ⟨_, _, _, rfl, _⟩ | ⟨_, rfl, _⟩ <;> rfl) | (rcases h with ⟨_, _, _, rfl, _⟩ | ⟨_, _, rfl, _⟩ <;> rfl) | (rcases h with ⟨_, _, _, rfl, _⟩ | ⟨_, _, _, rfl, _⟩ <;> rfl) | (obtain ⟨_, rfl, _⟩ := h; rfl) | (obtain ⟨_, _, rfl, _⟩ := h; rfl) | (obtain ⟨_, _, _, rfl, _⟩ := h; rfl) | (obtain ⟨_, _, _, _, rfl, _⟩ := h; rfl) | (obtain ⟨_, _, _, _, _, rfl, _⟩ := h; rfl) | (obtain ⟨_, _, _, _, _, _, rfl, _⟩ := h; rfl) | (obtain ⟨_, _, _, _, _, _, _, rfl, _⟩ := h; rfl) | (obtain ⟨_, _, _, _, _, _, _, _, rfl, _⟩ := h; rfl) | (obtain ⟨_, _, _, _, _, _, _, _, _, rfl, _⟩ := h; rfl) | exact h.elim) (fun cdv A outer s H E S0 W hr tk => ab_law_tape T cdv A outer s H E S0 W hr tk) (rd_law_tape)
  have Glaw_tape : Cal P w K mg base 1 "_law_tape" ["script"] (sp_law_tape) := ⟨_, _, Olaw_tape, PySem.W.mg_of X G a_law_tape, k_law_tape, F_law_tape.binds (ps := ["script"]) fun _ _ _ _ _ _ us hl => match us, hl with | [_], _ => rfl, ⟨fun s us ws _ hl => match us, ws, hl with | [], [_], _ => .of_eq rfl, fun {vs us zs ws} h1 h2 => by cases h1 with | nil => exact h2 | cons _ _ => exact .nil⟩⟩
  have F_law_pick := fun_mk (st := s_law_pick) l_law_pick c_law_pick k_law_pick
  have Olaw_pick := fn_ok (P := P) (w := w) (mg := mg) (base := base) (k := 0) (sp := sp_law_pick) F_law_pick sc_law_pick (by intro ds m P W h; unfold sp_law_pick at h; first | (rcases h with ⟨_, rfl, _⟩ | ⟨_, rfl, _⟩ <;> rfl) | (rcases h with ⟨_, rfl, _⟩ | ⟨_, _, rfl, _⟩ <;> rfl) | (rcases h with ⟨_, rfl, _⟩ | ⟨_, _, _, rfl, _⟩ <;> rfl) | (rcases h with ⟨_, _, rfl, _⟩ | ⟨_, rfl, _⟩ <;> rfl) | (rcases h with ⟨_, _, rfl, _⟩ | ⟨_, _, rfl, _⟩ <;> rfl) | (rcases h with ⟨_, _, rfl, _⟩ | ⟨_, _, _, rfl, _⟩ <;> rfl) | (rcases h with ⟨_, _, _, rfl, _⟩ | ⟨_, rfl, _⟩ <;> rfl) | (rcases h with ⟨_, _, _, rfl, _⟩ | ⟨_, _, rfl, _⟩ <;> rfl) | (rcases h with ⟨_, _, _, rfl, _⟩ | ⟨_, _, _, rfl, _⟩ <;> rfl) | (obtain ⟨_, rfl, _⟩ := h; rfl) | (obtain ⟨_, _, rfl, _⟩ := h; rfl) | (obtain ⟨_, _, _, rfl, _⟩ := h; rfl) | (obtain ⟨_, _, _, _, rfl, _⟩ := h; rfl) | (obtain ⟨_, _, _, _, _, rfl, _⟩ := h; rfl) | (obtain ⟨_, _, _, _, _, _, rfl, _⟩ := h; rfl) | (obtain ⟨_, _, _, _, _, _, _, rfl, _⟩ := h; rfl) | (obtain ⟨_, _, _, _, _, _, _, _, rfl, _⟩ := h; rfl) | (obtain ⟨_, _, _, _, _, _, _, _, _, rfl, _⟩ := h; rfl) | exact h.elim) (fun cdv A outer s H E S0 W hr tk => ab_law_pick T cdv A outer s H E S0 W hr tk) (rd_law_pick)
  have Glaw_pick : Cal P w K mg base 1 "_law_pick" ["tape", "many"] (sp_law_pick) := ⟨_, _, Olaw_pick, PySem.W.mg_of X G a_law_pick, k_law_pick, F_law_pick.binds (ps := ["tape", "many"]) fun _ _ _ _ _ _ us hl => match us, hl with | [_, _], _ => rfl, ⟨fun s us ws _ hl => match us, ws, hl with | [], [_, _], _ => .of_eq rfl, fun {vs us zs ws} h1 h2 => by cases h1 with | nil => exact h2 | cons _ _ => exact .nil⟩⟩
  have F_law_marks := fun_mk (st := s_law_marks) l_law_marks c_law_marks k_law_marks
  have Olaw_marks := fn_ok (P := P) (w := w) (mg := mg) (base := base) (k := 1) (sp := sp_law_marks) F_law_marks sc_law_marks (by intro ds m P W h; unfold sp_law_marks at h; first | (rcases h with ⟨_, rfl, _⟩ | ⟨_, rfl, _⟩ <;> rfl) | (rcases h with ⟨_, rfl, _⟩ | ⟨_, _, rfl, _⟩ <;> rfl) | (rcases h with ⟨_, rfl, _⟩ | ⟨_, _, _, rfl, _⟩ <;> rfl) | (rcases h with ⟨_, _, rfl, _⟩ | ⟨_, rfl, _⟩ <;> rfl) | (rcases h with ⟨_, _, rfl, _⟩ | ⟨_, _, rfl, _⟩ <;> rfl) | (rcases h with ⟨_, _, rfl, _⟩ | ⟨_, _, _, rfl, _⟩ <;> rfl) | (rcases h with ⟨_, _, _, rfl, _⟩ | ⟨_, rfl, _⟩ <;> rfl) | (rcases h with ⟨_, _, _, rfl, _⟩ | ⟨_, _, rfl, _⟩ <;> rfl) | (rcases h with ⟨_, _, _, rfl, _⟩ | ⟨_, _, _, rfl, _⟩ <;> rfl) | (obtain ⟨_, rfl, _⟩ := h; rfl) | (obtain ⟨_, _, rfl, _⟩ := h; rfl) | (obtain ⟨_, _, _, rfl, _⟩ := h; rfl) | (obtain ⟨_, _, _, _, rfl, _⟩ := h; rfl) | (obtain ⟨_, _, _, _, _, rfl, _⟩ := h; rfl) | (obtain ⟨_, _, _, _, _, _, rfl, _⟩ := h; rfl) | (obtain ⟨_, _, _, _, _, _, _, rfl, _⟩ := h; rfl) | (obtain ⟨_, _, _, _, _, _, _, _, rfl, _⟩ := h; rfl) | (obtain ⟨_, _, _, _, _, _, _, _, _, rfl, _⟩ := h; rfl) | exact h.elim) (fun cdv A outer s H E S0 W hr tk => ab_law_marks Glaw_pick T cdv A outer s H E S0 W hr tk) (rd_law_marks)
  have Glaw_marks : Cal P w K mg base 2 "_law_marks" ["tape"] (sp_law_marks) := ⟨_, _, Olaw_marks, PySem.W.mg_of X G a_law_marks, k_law_marks, F_law_marks.binds (ps := ["tape"]) fun _ _ _ _ _ _ us hl => match us, hl with | [_], _ => rfl, ⟨fun s us ws _ hl => match us, ws, hl with | [], [_], _ => .of_eq rfl, fun {vs us zs ws} h1 h2 => by cases h1 with | nil => exact h2 | cons _ _ => exact .nil⟩⟩
  have F_law_more := fun_mk (st := s_law_more) l_law_more c_law_more k_law_more
  have Olaw_more := fn_ok (P := P) (w := w) (mg := mg) (base := base) (k := 1) (sp := sp_law_more) F_law_more sc_law_more (by intro ds m P W h; unfold sp_law_more at h; first | (rcases h with ⟨_, rfl, _⟩ | ⟨_, rfl, _⟩ <;> rfl) | (rcases h with ⟨_, rfl, _⟩ | ⟨_, _, rfl, _⟩ <;> rfl) | (rcases h with ⟨_, rfl, _⟩ | ⟨_, _, _, rfl, _⟩ <;> rfl) | (rcases h with ⟨_, _, rfl, _⟩ | ⟨_, rfl, _⟩ <;> rfl) | (rcases h with ⟨_, _, rfl, _⟩ | ⟨_, _, rfl, _⟩ <;> rfl) | (rcases h with ⟨_, _, rfl, _⟩ | ⟨_, _, _, rfl, _⟩ <;> rfl) | (rcases h with ⟨_, _, _, rfl, _⟩ | ⟨_, rfl, _⟩ <;> rfl) | (rcases h with ⟨_, _, _, rfl, _⟩ | ⟨_, _, rfl, _⟩ <;> rfl) | (rcases h with ⟨_, _, _, rfl, _⟩ | ⟨_, _, _, rfl, _⟩ <;> rfl) | (obtain ⟨_, rfl, _⟩ := h; rfl) | (obtain ⟨_, _, rfl, _⟩ := h; rfl) | (obtain ⟨_, _, _, rfl, _⟩ := h; rfl) | (obtain ⟨_, _, _, _, rfl, _⟩ := h; rfl) | (obtain ⟨_, _, _, _, _, rfl, _⟩ := h; rfl) | (obtain ⟨_, _, _, _, _, _, rfl, _⟩ := h; rfl) | (obtain ⟨_, _, _, _, _, _, _, rfl, _⟩ := h; rfl) | (obtain ⟨_, _, _, _, _, _, _, _, rfl, _⟩ := h; rfl) | (obtain ⟨_, _, _, _, _, _, _, _, _, rfl, _⟩ := h; rfl) | exact h.elim) (fun cdv A outer s H E S0 W hr tk => ab_law_more Glaw_pick T cdv A outer s H E S0 W hr tk) (rd_law_more)
  have Glaw_more : Cal P w K mg base 2 "_law_more" ["tape"] (sp_law_more) := ⟨_, _, Olaw_more, PySem.W.mg_of X G a_law_more, k_law_more, F_law_more.binds (ps := ["tape"]) fun _ _ _ _ _ _ us hl => match us, hl with | [_], _ => rfl, ⟨fun s us ws _ hl => match us, ws, hl with | [], [_], _ => .of_eq rfl, fun {vs us zs ws} h1 h2 => by cases h1 with | nil => exact h2 | cons _ _ => exact .nil⟩⟩
  have F_law_tree := fun_mk (st := s_law_tree) l_law_tree c_law_tree k_law_tree
  have Olaw_tree := fn_ok (P := P) (w := w) (mg := mg) (base := base) (k := 1) (sp := sp_law_tree) F_law_tree sc_law_tree (by intro ds m P W h; unfold sp_law_tree at h; first | (rcases h with ⟨_, rfl, _⟩ | ⟨_, rfl, _⟩ <;> rfl) | (rcases h with ⟨_, rfl, _⟩ | ⟨_, _, rfl, _⟩ <;> rfl) | (rcases h with ⟨_, rfl, _⟩ | ⟨_, _, _, rfl, _⟩ <;> rfl) | (rcases h with ⟨_, _, rfl, _⟩ | ⟨_, rfl, _⟩ <;> rfl) | (rcases h with ⟨_, _, rfl, _⟩ | ⟨_, _, rfl, _⟩ <;> rfl) | (rcases h with ⟨_, _, rfl, _⟩ | ⟨_, _, _, rfl, _⟩ <;> rfl) | (rcases h with ⟨_, _, _, rfl, _⟩ | ⟨_, rfl, _⟩ <;> rfl) | (rcases h with ⟨_, _, _, rfl, _⟩ | ⟨_, _, rfl, _⟩ <;> rfl) | (rcases h with ⟨_, _, _, rfl, _⟩ | ⟨_, _, _, rfl, _⟩ <;> rfl) | (obtain ⟨_, rfl, _⟩ := h; rfl) | (obtain ⟨_, _, rfl, _⟩ := h; rfl) | (obtain ⟨_, _, _, rfl, _⟩ := h; rfl) | (obtain ⟨_, _, _, _, rfl, _⟩ := h; rfl) | (obtain ⟨_, _, _, _, _, rfl, _⟩ := h; rfl) | (obtain ⟨_, _, _, _, _, _, rfl, _⟩ := h; rfl) | (obtain ⟨_, _, _, _, _, _, _, rfl, _⟩ := h; rfl) | (obtain ⟨_, _, _, _, _, _, _, _, rfl, _⟩ := h; rfl) | (obtain ⟨_, _, _, _, _, _, _, _, _, rfl, _⟩ := h; rfl) | exact h.elim) (fun cdv A outer s H E S0 W hr tk => ab_law_tree Glaw_pick T cdv A outer s H E S0 W hr tk) (rd_law_tree)
  have Glaw_tree : Cal P w K mg base 2 "_law_tree" ["tape", "marks", "most"] (sp_law_tree) := ⟨_, _, Olaw_tree, PySem.W.mg_of X G a_law_tree, k_law_tree, F_law_tree.binds (ps := ["tape", "marks", "most"]) fun _ _ _ _ _ _ us hl => match us, hl with | [_, _, _], _ => rfl, ⟨fun s us ws _ hl => match us, ws, hl with | [], [_, _, _], _ => .of_eq rfl, fun {vs us zs ws} h1 h2 => by cases h1 with | nil => exact h2 | cons _ _ => exact .nil⟩⟩
  have F_law_far := fun_mk (st := s_law_far) l_law_far c_law_far k_law_far
  have Olaw_far := fn_ok (P := P) (w := w) (mg := mg) (base := base) (k := 0) (sp := sp_law_far) F_law_far sc_law_far (by intro ds m P W h; unfold sp_law_far at h; first | (rcases h with ⟨_, rfl, _⟩ | ⟨_, rfl, _⟩ <;> rfl) | (rcases h with ⟨_, rfl, _⟩ | ⟨_, _, rfl, _⟩ <;> rfl) | (rcases h with ⟨_, rfl, _⟩ | ⟨_, _, _, rfl, _⟩ <;> rfl) | (rcases h with ⟨_, _, rfl, _⟩ | ⟨_, rfl, _⟩ <;> rfl) | (rcases h with ⟨_, _, rfl, _⟩ | ⟨_, _, rfl, _⟩ <;> rfl) | (rcases h with ⟨_, _, rfl, _⟩ | ⟨_, _, _, rfl, _⟩ <;> rfl) | (rcases h with ⟨_, _, _, rfl, _⟩ | ⟨_, rfl, _⟩ <;> rfl) | (rcases h with ⟨_, _, _, rfl, _⟩ | ⟨_, _, rfl, _⟩ <;> rfl) | (rcases h with ⟨_, _, _, rfl, _⟩ | ⟨_, _, _, rfl, _⟩ <;> rfl) | (obtain ⟨_, rfl, _⟩ := h; rfl) | (obtain ⟨_, _, rfl, _⟩ := h; rfl) | (obtain ⟨_, _, _, rfl, _⟩ := h; rfl) | (obtain ⟨_, _, _, _, rfl, _⟩ := h; rfl) | (obtain ⟨_, _, _, _, _, rfl, _⟩ := h; rfl) | (obtain ⟨_, _, _, _, _, _, rfl, _⟩ := h; rfl) | (obtain ⟨_, _, _, _, _, _, _, rfl, _⟩ := h; rfl) | (obtain ⟨_, _, _, _, _, _, _, _, rfl, _⟩ := h; rfl) | (obtain ⟨_, _, _, _, _, _, _, _, _, rfl, _⟩ := h; rfl) | exact h.elim) (fun cdv A outer s H E S0 W hr tk => ab_law_far  cdv A outer s H E S0 W hr tk) (rd_law_far)
  have Glaw_far : Cal P w K mg base 1 "_law_far" ["row", "at"] (sp_law_far) := ⟨_, _, Olaw_far, PySem.W.mg_of X G a_law_far, k_law_far, F_law_far.binds (ps := ["row", "at"]) fun _ _ _ _ _ _ us hl => match us, hl with | [_, _], _ => rfl, ⟨fun s us ws _ hl => match us, ws, hl with | [], [_, _], _ => .of_eq rfl, fun {vs us zs ws} h1 h2 => by cases h1 with | nil => exact h2 | cons _ _ => exact .nil⟩⟩
  have F_law_twin := fun_mk (st := s_law_twin) l_law_twin c_law_twin k_law_twin
  have Olaw_twin := fn_ok (P := P) (w := w) (mg := mg) (base := base) (k := 2) (sp := sp_law_twin) F_law_twin sc_law_twin (by intro ds m P W h; unfold sp_law_twin at h; first | (rcases h with ⟨_, rfl, _⟩ | ⟨_, rfl, _⟩ <;> rfl) | (rcases h with ⟨_, rfl, _⟩ | ⟨_, _, rfl, _⟩ <;> rfl) | (rcases h with ⟨_, rfl, _⟩ | ⟨_, _, _, rfl, _⟩ <;> rfl) | (rcases h with ⟨_, _, rfl, _⟩ | ⟨_, rfl, _⟩ <;> rfl) | (rcases h with ⟨_, _, rfl, _⟩ | ⟨_, _, rfl, _⟩ <;> rfl) | (rcases h with ⟨_, _, rfl, _⟩ | ⟨_, _, _, rfl, _⟩ <;> rfl) | (rcases h with ⟨_, _, _, rfl, _⟩ | ⟨_, rfl, _⟩ <;> rfl) | (rcases h with ⟨_, _, _, rfl, _⟩ | ⟨_, _, rfl, _⟩ <;> rfl) | (rcases h with ⟨_, _, _, rfl, _⟩ | ⟨_, _, _, rfl, _⟩ <;> rfl) | (obtain ⟨_, rfl, _⟩ := h; rfl) | (obtain ⟨_, _, rfl, _⟩ := h; rfl) | (obtain ⟨_, _, _, rfl, _⟩ := h; rfl) | (obtain ⟨_, _, _, _, rfl, _⟩ := h; rfl) | (obtain ⟨_, _, _, _, _, rfl, _⟩ := h; rfl) | (obtain ⟨_, _, _, _, _, _, rfl, _⟩ := h; rfl) | (obtain ⟨_, _, _, _, _, _, _, rfl, _⟩ := h; rfl) | (obtain ⟨_, _, _, _, _, _, _, _, rfl, _⟩ := h; rfl) | (obtain ⟨_, _, _, _, _, _, _, _, _, rfl, _⟩ := h; rfl) | exact h.elim) (fun cdv A outer s H E S0 W hr tk => ab_law_twin Glaw_far Glaw_pick Glaw_tree T cdv A outer s H E S0 W hr tk) (rd_law_twin)
  have Glaw_twin : Cal P w K mg base 3 "_law_twin" ["tape", "marks", "more", "tall"] (sp_law_twin) := ⟨_, _, Olaw_twin, PySem.W.mg_of X G a_law_twin, k_law_twin, F_law_twin.binds (ps := ["tape", "marks", "more", "tall"]) fun _ _ _ _ _ _ us hl => match us, hl with | [_, _, _, _], _ => rfl, ⟨fun s us ws _ hl => match us, ws, hl with | [], [_, _, _, _], _ => .of_eq rfl, fun {vs us zs ws} h1 h2 => by cases h1 with | nil => exact h2 | cons _ _ => exact .nil⟩⟩
  have F_law_rows := fun_mk (st := s_law_rows) l_law_rows c_law_rows k_law_rows
  have Olaw_rows := fn_ok (P := P) (w := w) (mg := mg) (base := base) (k := 3) (sp := sp_law_rows) F_law_rows sc_law_rows (by intro ds m P W h; unfold sp_law_rows at h; first | (rcases h with ⟨_, rfl, _⟩ | ⟨_, rfl, _⟩ <;> rfl) | (rcases h with ⟨_, rfl, _⟩ | ⟨_, _, rfl, _⟩ <;> rfl) | (rcases h with ⟨_, rfl, _⟩ | ⟨_, _, _, rfl, _⟩ <;> rfl) | (rcases h with ⟨_, _, rfl, _⟩ | ⟨_, rfl, _⟩ <;> rfl) | (rcases h with ⟨_, _, rfl, _⟩ | ⟨_, _, rfl, _⟩ <;> rfl) | (rcases h with ⟨_, _, rfl, _⟩ | ⟨_, _, _, rfl, _⟩ <;> rfl) | (rcases h with ⟨_, _, _, rfl, _⟩ | ⟨_, rfl, _⟩ <;> rfl) | (rcases h with ⟨_, _, _, rfl, _⟩ | ⟨_, _, rfl, _⟩ <;> rfl) | (rcases h with ⟨_, _, _, rfl, _⟩ | ⟨_, _, _, rfl, _⟩ <;> rfl) | (obtain ⟨_, rfl, _⟩ := h; rfl) | (obtain ⟨_, _, rfl, _⟩ := h; rfl) | (obtain ⟨_, _, _, rfl, _⟩ := h; rfl) | (obtain ⟨_, _, _, _, rfl, _⟩ := h; rfl) | (obtain ⟨_, _, _, _, _, rfl, _⟩ := h; rfl) | (obtain ⟨_, _, _, _, _, _, rfl, _⟩ := h; rfl) | (obtain ⟨_, _, _, _, _, _, _, rfl, _⟩ := h; rfl) | (obtain ⟨_, _, _, _, _, _, _, _, rfl, _⟩ := h; rfl) | (obtain ⟨_, _, _, _, _, _, _, _, _, rfl, _⟩ := h; rfl) | exact h.elim) (fun cdv A outer s H E S0 W hr tk => ab_law_rows Glaw_more Glaw_pick Glaw_tree Glaw_twin T cdv A outer s H E S0 W hr tk) (rd_law_rows)
  have Glaw_rows : Cal P w K mg base 4 "_law_rows" ["tape", "marks"] (sp_law_rows) := ⟨_, _, Olaw_rows, PySem.W.mg_of X G a_law_rows, k_law_rows, F_law_rows.binds (ps := ["tape", "marks"]) fun _ _ _ _ _ _ us hl => match us, hl with | [_, _], _ => rfl, ⟨fun s us ws _ hl => match us, ws, hl with | [], [_, _], _ => .of_eq rfl, fun {vs us zs ws} h1 h2 => by cases h1 with | nil => exact h2 | cons _ _ => exact .nil⟩⟩
  have F_law_numbers := fun_mk (st := s_law_numbers) l_law_numbers c_law_numbers k_law_numbers
  have Olaw_numbers := fn_ok (P := P) (w := w) (mg := mg) (base := base) (k := 0) (sp := sp_law_numbers) F_law_numbers sc_law_numbers (by intro ds m P W h; unfold sp_law_numbers at h; first | (rcases h with ⟨_, rfl, _⟩ | ⟨_, rfl, _⟩ <;> rfl) | (rcases h with ⟨_, rfl, _⟩ | ⟨_, _, rfl, _⟩ <;> rfl) | (rcases h with ⟨_, rfl, _⟩ | ⟨_, _, _, rfl, _⟩ <;> rfl) | (rcases h with ⟨_, _, rfl, _⟩ | ⟨_, rfl, _⟩ <;> rfl) | (rcases h with ⟨_, _, rfl, _⟩ | ⟨_, _, rfl, _⟩ <;> rfl) | (rcases h with ⟨_, _, rfl, _⟩ | ⟨_, _, _, rfl, _⟩ <;> rfl) | (rcases h with ⟨_, _, _, rfl, _⟩ | ⟨_, rfl, _⟩ <;> rfl) | (rcases h with ⟨_, _, _, rfl, _⟩ | ⟨_, _, rfl, _⟩ <;> rfl) | (rcases h with ⟨_, _, _, rfl, _⟩ | ⟨_, _, _, rfl, _⟩ <;> rfl) | (obtain ⟨_, rfl, _⟩ := h; rfl) | (obtain ⟨_, _, rfl, _⟩ := h; rfl) | (obtain ⟨_, _, _, rfl, _⟩ := h; rfl) | (obtain ⟨_, _, _, _, rfl, _⟩ := h; rfl) | (obtain ⟨_, _, _, _, _, rfl, _⟩ := h; rfl) | (obtain ⟨_, _, _, _, _, _, rfl, _⟩ := h; rfl) | (obtain ⟨_, _, _, _, _, _, _, rfl, _⟩ := h; rfl) | (obtain ⟨_, _, _, _, _, _, _, _, rfl, _⟩ := h; rfl) | (obtain ⟨_, _, _, _, _, _, _, _, _, rfl, _⟩ := h; rfl) | exact h.elim) (fun cdv A outer s H E S0 W hr tk => ab_law_numbers T cdv A outer s H E S0 W hr tk) (rd_law_numbers)
  have Glaw_numbers : Cal P w K mg base 1 "_law_numbers" ["row"] (sp_law_numbers) := ⟨_, _, Olaw_numbers, PySem.W.mg_of X G a_law_numbers, k_law_numbers, F_law_numbers.binds (ps := ["row"]) fun _ _ _ _ _ _ us hl => match us, hl with | [_], _ => rfl, ⟨fun s us ws _ hl => match us, ws, hl with | [], [_], _ => .of_eq rfl, fun {vs us zs ws} h1 h2 => by cases h1 with | nil => exact h2 | cons _ _ => exact .nil⟩⟩
  have F_law_before := fun_mk (st := s_law_before) l_law_before c_law_before k_law_before
  have Olaw_before := fn_ok (P := P) (w := w) (mg := mg) (base := base) (k := 1) (sp := sp_law_before) F_law_before sc_law_before (by intro ds m P W h; unfold sp_law_before at h; first | (rcases h with ⟨_, rfl, _⟩ | ⟨_, rfl, _⟩ <;> rfl) | (rcases h with ⟨_, rfl, _⟩ | ⟨_, _, rfl, _⟩ <;> rfl) | (rcases h with ⟨_, rfl, _⟩ | ⟨_, _, _, rfl, _⟩ <;> rfl) | (rcases h with ⟨_, _, rfl, _⟩ | ⟨_, rfl, _⟩ <;> rfl) | (rcases h with ⟨_, _, rfl, _⟩ | ⟨_, _, rfl, _⟩ <;> rfl) | (rcases h with ⟨_, _, rfl, _⟩ | ⟨_, _, _, rfl, _⟩ <;> rfl) | (rcases h with ⟨_, _, _, rfl, _⟩ | ⟨_, rfl, _⟩ <;> rfl) | (rcases h with ⟨_, _, _, rfl, _⟩ | ⟨_, _, rfl, _⟩ <;> rfl) | (rcases h with ⟨_, _, _, rfl, _⟩ | ⟨_, _, _, rfl, _⟩ <;> rfl) | (obtain ⟨_, rfl, _⟩ := h; rfl) | (obtain ⟨_, _, rfl, _⟩ := h; rfl) | (obtain ⟨_, _, _, rfl, _⟩ := h; rfl) | (obtain ⟨_, _, _, _, rfl, _⟩ := h; rfl) | (obtain ⟨_, _, _, _, _, rfl, _⟩ := h; rfl) | (obtain ⟨_, _, _, _, _, _, rfl, _⟩ := h; rfl) | (obtain ⟨_, _, _, _, _, _, _, rfl, _⟩ := h; rfl) | (obtain ⟨_, _, _, _, _, _, _, _, rfl, _⟩ := h; rfl) | (obtain ⟨_, _, _, _, _, _, _, _, _, rfl, _⟩ := h; rfl) | exact h.elim) (fun cdv A outer s H E S0 W hr tk => ab_law_before Glaw_numbers T cdv A outer s H E S0 W hr tk) (rd_law_before)
  have Glaw_before : Cal P w K mg base 2 "_law_before" ["one", "two"] (sp_law_before) := ⟨_, _, Olaw_before, PySem.W.mg_of X G a_law_before, k_law_before, F_law_before.binds (ps := ["one", "two"]) fun _ _ _ _ _ _ us hl => match us, hl with | [_, _], _ => rfl, ⟨fun s us ws _ hl => match us, ws, hl with | [], [_, _], _ => .of_eq rfl, fun {vs us zs ws} h1 h2 => by cases h1 with | nil => exact h2 | cons _ _ => exact .nil⟩⟩
  have F_law_sorted := fun_mk (st := s_law_sorted) l_law_sorted c_law_sorted k_law_sorted
  have Olaw_sorted := fn_ok (P := P) (w := w) (mg := mg) (base := base) (k := 2) (sp := sp_law_sorted) F_law_sorted sc_law_sorted (by intro ds m P W h; unfold sp_law_sorted at h; first | (rcases h with ⟨_, rfl, _⟩ | ⟨_, rfl, _⟩ <;> rfl) | (rcases h with ⟨_, rfl, _⟩ | ⟨_, _, rfl, _⟩ <;> rfl) | (rcases h with ⟨_, rfl, _⟩ | ⟨_, _, _, rfl, _⟩ <;> rfl) | (rcases h with ⟨_, _, rfl, _⟩ | ⟨_, rfl, _⟩ <;> rfl) | (rcases h with ⟨_, _, rfl, _⟩ | ⟨_, _, rfl, _⟩ <;> rfl) | (rcases h with ⟨_, _, rfl, _⟩ | ⟨_, _, _, rfl, _⟩ <;> rfl) | (rcases h with ⟨_, _, _, rfl, _⟩ | ⟨_, rfl, _⟩ <;> rfl) | (rcases h with ⟨_, _, _, rfl, _⟩ | ⟨_, _, rfl, _⟩ <;> rfl) | (rcases h with ⟨_, _, _, rfl, _⟩ | ⟨_, _, _, rfl, _⟩ <;> rfl) | (obtain ⟨_, rfl, _⟩ := h; rfl) | (obtain ⟨_, _, rfl, _⟩ := h; rfl) | (obtain ⟨_, _, _, rfl, _⟩ := h; rfl) | (obtain ⟨_, _, _, _, rfl, _⟩ := h; rfl) | (obtain ⟨_, _, _, _, _, rfl, _⟩ := h; rfl) | (obtain ⟨_, _, _, _, _, _, rfl, _⟩ := h; rfl) | (obtain ⟨_, _, _, _, _, _, _, rfl, _⟩ := h; rfl) | (obtain ⟨_, _, _, _, _, _, _, _, rfl, _⟩ := h; rfl) | (obtain ⟨_, _, _, _, _, _, _, _, _, rfl, _⟩ := h; rfl) | exact h.elim) (fun cdv A outer s H E S0 W hr tk => ab_law_sorted Glaw_before T cdv A outer s H E S0 W hr tk) (rd_law_sorted)
  have Glaw_sorted : Cal P w K mg base 3 "_law_sorted" ["rows"] (sp_law_sorted) := ⟨_, _, Olaw_sorted, PySem.W.mg_of X G a_law_sorted, k_law_sorted, F_law_sorted.binds (ps := ["rows"]) fun _ _ _ _ _ _ us hl => match us, hl with | [_], _ => rfl, ⟨fun s us ws _ hl => match us, ws, hl with | [], [_], _ => .of_eq rfl, fun {vs us zs ws} h1 h2 => by cases h1 with | nil => exact h2 | cons _ _ => exact .nil⟩⟩
  have F_law_same := fun_mk (st := s_law_same) l_law_same c_law_same k_law_same
  have Olaw_same := fn_ok (P := P) (w := w) (mg := mg) (base := base) (k := 0) (sp := sp_law_same) F_law_same sc_law_same (by intro ds m P W h; unfold sp_law_same at h; first | (rcases h with ⟨_, rfl, _⟩ | ⟨_, rfl, _⟩ <;> rfl) | (rcases h with ⟨_, rfl, _⟩ | ⟨_, _, rfl, _⟩ <;> rfl) | (rcases h with ⟨_, rfl, _⟩ | ⟨_, _, _, rfl, _⟩ <;> rfl) | (rcases h with ⟨_, _, rfl, _⟩ | ⟨_, rfl, _⟩ <;> rfl) | (rcases h with ⟨_, _, rfl, _⟩ | ⟨_, _, rfl, _⟩ <;> rfl) | (rcases h with ⟨_, _, rfl, _⟩ | ⟨_, _, _, rfl, _⟩ <;> rfl) | (rcases h with ⟨_, _, _, rfl, _⟩ | ⟨_, rfl, _⟩ <;> rfl) | (rcases h with ⟨_, _, _, rfl, _⟩ | ⟨_, _, rfl, _⟩ <;> rfl) | (rcases h with ⟨_, _, _, rfl, _⟩ | ⟨_, _, _, rfl, _⟩ <;> rfl) | (obtain ⟨_, rfl, _⟩ := h; rfl) | (obtain ⟨_, _, rfl, _⟩ := h; rfl) | (obtain ⟨_, _, _, rfl, _⟩ := h; rfl) | (obtain ⟨_, _, _, _, rfl, _⟩ := h; rfl) | (obtain ⟨_, _, _, _, _, rfl, _⟩ := h; rfl) | (obtain ⟨_, _, _, _, _, _, rfl, _⟩ := h; rfl) | (obtain ⟨_, _, _, _, _, _, _, rfl, _⟩ := h; rfl) | (obtain ⟨_, _, _, _, _, _, _, _, rfl, _⟩ := h; rfl) | (obtain ⟨_, _, _, _, _, _, _, _, _, rfl, _⟩ := h; rfl) | exact h.elim) (fun cdv A outer s H E S0 W hr tk => ab_law_same T cdv A outer s H E S0 W hr tk) (rd_law_same)
  have Glaw_same : Cal P w K mg base 1 "_law_same" ["told", "due"] (sp_law_same) := ⟨_, _, Olaw_same, PySem.W.mg_of X G a_law_same, k_law_same, F_law_same.binds (ps := ["told", "due"]) fun _ _ _ _ _ _ us hl => match us, hl with | [_, _], _ => rfl, ⟨fun s us ws _ hl => match us, ws, hl with | [], [_, _], _ => .of_eq rfl, fun {vs us zs ws} h1 h2 => by cases h1 with | nil => exact h2 | cons _ _ => exact .nil⟩⟩
  have F_need := fun_mk (st := s_need) l_need c_need k_need
  have Oneed := fn_ok (P := P) (w := w) (mg := mg) (base := base) (k := 2) (sp := sp_need C_NotUsable) F_need sc_need (by intro ds m P W h; unfold sp_need at h; first | (rcases h with ⟨_, rfl, _⟩ | ⟨_, rfl, _⟩ <;> rfl) | (rcases h with ⟨_, rfl, _⟩ | ⟨_, _, rfl, _⟩ <;> rfl) | (rcases h with ⟨_, rfl, _⟩ | ⟨_, _, _, rfl, _⟩ <;> rfl) | (rcases h with ⟨_, _, rfl, _⟩ | ⟨_, rfl, _⟩ <;> rfl) | (rcases h with ⟨_, _, rfl, _⟩ | ⟨_, _, rfl, _⟩ <;> rfl) | (rcases h with ⟨_, _, rfl, _⟩ | ⟨_, _, _, rfl, _⟩ <;> rfl) | (rcases h with ⟨_, _, _, rfl, _⟩ | ⟨_, rfl, _⟩ <;> rfl) | (rcases h with ⟨_, _, _, rfl, _⟩ | ⟨_, _, rfl, _⟩ <;> rfl) | (rcases h with ⟨_, _, _, rfl, _⟩ | ⟨_, _, _, rfl, _⟩ <;> rfl) | (obtain ⟨_, rfl, _⟩ := h; rfl) | (obtain ⟨_, _, rfl, _⟩ := h; rfl) | (obtain ⟨_, _, _, rfl, _⟩ := h; rfl) | (obtain ⟨_, _, _, _, rfl, _⟩ := h; rfl) | (obtain ⟨_, _, _, _, _, rfl, _⟩ := h; rfl) | (obtain ⟨_, _, _, _, _, _, rfl, _⟩ := h; rfl) | (obtain ⟨_, _, _, _, _, _, _, rfl, _⟩ := h; rfl) | (obtain ⟨_, _, _, _, _, _, _, _, rfl, _⟩ := h; rfl) | (obtain ⟨_, _, _, _, _, _, _, _, _, rfl, _⟩ := h; rfl) | exact h.elim) (fun cdv A outer s H E S0 W hr tk => ab_need R_NotUsable cdv A outer s H E S0 W hr tk) (rd_need)
  have Gneed : Cal P w K mg base 3 "need" ["holds", "name"] (sp_need C_NotUsable) := ⟨_, _, Oneed, PySem.W.mg_of X G a_need, k_need, F_need.binds (ps := ["holds", "name"]) fun _ _ _ _ _ _ us hl => match us, hl with | [_, _], _ => rfl, ⟨fun s us ws _ hl => match us, ws, hl with | [], [_, _], _ => .of_eq rfl, fun {vs us zs ws} h1 h2 => by cases h1 with | nil => exact h2 | cons _ _ => exact .nil⟩⟩
  have F_is_number := fun_mk (st := s_is_number) l_is_number c_is_number k_is_number
  have Ois_number := fn_ok (P := P) (w := w) (mg := mg) (base := base) (k := 0) (sp := sp_is_number) F_is_number sc_is_number (by intro ds m P W h; unfold sp_is_number at h; first | (rcases h with ⟨_, rfl, _⟩ | ⟨_, rfl, _⟩ <;> rfl) | (rcases h with ⟨_, rfl, _⟩ | ⟨_, _, rfl, _⟩ <;> rfl) | (rcases h with ⟨_, rfl, _⟩ | ⟨_, _, _, rfl, _⟩ <;> rfl) | (rcases h with ⟨_, _, rfl, _⟩ | ⟨_, rfl, _⟩ <;> rfl) | (rcases h with ⟨_, _, rfl, _⟩ | ⟨_, _, rfl, _⟩ <;> rfl) | (rcases h with ⟨_, _, rfl, _⟩ | ⟨_, _, _, rfl, _⟩ <;> rfl) | (rcases h with ⟨_, _, _, rfl, _⟩ | ⟨_, rfl, _⟩ <;> rfl) | (rcases h with ⟨_, _, _, rfl, _⟩ | ⟨_, _, rfl, _⟩ <;> rfl) | (rcases h with ⟨_, _, _, rfl, _⟩ | ⟨_, _, _, rfl, _⟩ <;> rfl) | (obtain ⟨_, rfl, _⟩ := h; rfl) | (obtain ⟨_, _, rfl, _⟩ := h; rfl) | (obtain ⟨_, _, _, rfl, _⟩ := h; rfl) | (obtain ⟨_, _, _, _, rfl, _⟩ := h; rfl) | (obtain ⟨_, _, _, _, _, rfl, _⟩ := h; rfl) | (obtain ⟨_, _, _, _, _, _, rfl, _⟩ := h; rfl) | (obtain ⟨_, _, _, _, _, _, _, rfl, _⟩ := h; rfl) | (obtain ⟨_, _, _, _, _, _, _, _, rfl, _⟩ := h; rfl) | (obtain ⟨_, _, _, _, _, _, _, _, _, rfl, _⟩ := h; rfl) | exact h.elim) (fun cdv A outer s H E S0 W hr tk => ab_is_number T cdv A outer s H E S0 W hr tk) (rd_is_number)
  have Gis_number : Cal P w K mg base 1 "is_number" ["thing"] (sp_is_number) := ⟨_, _, Ois_number, PySem.W.mg_of X G a_is_number, k_is_number, F_is_number.binds (ps := ["thing"]) fun _ _ _ _ _ _ us hl => match us, hl with | [_], _ => rfl, ⟨fun s us ws _ hl => match us, ws, hl with | [], [_], _ => .of_eq rfl, fun {vs us zs ws} h1 h2 => by cases h1 with | nil => exact h2 | cons _ _ => exact .nil⟩⟩
  have F_is_hole := fun_mk (st := s_is_hole) l_is_hole c_is_hole k_is_hole
  have Ois_hole := fn_ok (P := P) (w := w) (mg := mg) (base := base) (k := 1) (sp := sp_is_hole) F_is_hole sc_is_hole (by intro ds m P W h; unfold sp_is_hole at h; first | (rcases h with ⟨_, rfl, _⟩ | ⟨_, rfl, _⟩ <;> rfl) | (rcases h with ⟨_, rfl, _⟩ | ⟨_, _, rfl, _⟩ <;> rfl) | (rcases h with ⟨_, rfl, _⟩ | ⟨_, _, _, rfl, _⟩ <;> rfl) | (rcases h with ⟨_, _, rfl, _⟩ | ⟨_, rfl, _⟩ <;> rfl) | (rcases h with ⟨_, _, rfl, _⟩ | ⟨_, _, rfl, _⟩ <;> rfl) | (rcases h with ⟨_, _, rfl, _⟩ | ⟨_, _, _, rfl, _⟩ <;> rfl) | (rcases h with ⟨_, _, _, rfl, _⟩ | ⟨_, rfl, _⟩ <;> rfl) | (rcases h with ⟨_, _, _, rfl, _⟩ | ⟨_, _, rfl, _⟩ <;> rfl) | (rcases h with ⟨_, _, _, rfl, _⟩ | ⟨_, _, _, rfl, _⟩ <;> rfl) | (obtain ⟨_, rfl, _⟩ := h; rfl) | (obtain ⟨_, _, rfl, _⟩ := h; rfl) | (obtain ⟨_, _, _, rfl, _⟩ := h; rfl) | (obtain ⟨_, _, _, _, rfl, _⟩ := h; rfl) | (obtain ⟨_, _, _, _, _, rfl, _⟩ := h; rfl) | (obtain ⟨_, _, _, _, _, _, rfl, _⟩ := h; rfl) | (obtain ⟨_, _, _, _, _, _, _, rfl, _⟩ := h; rfl) | (obtain ⟨_, _, _, _, _, _, _, _, rfl, _⟩ := h; rfl) | (obtain ⟨_, _, _, _, _, _, _, _, _, rfl, _⟩ := h; rfl) | exact h.elim) (fun cdv A outer s H E S0 W hr tk => ab_is_hole G_HOLE Gis_number cdv A outer s H E S0 W hr tk) (fun _ _ _ _ h => h.elim)
  have Gis_hole : Cal P w K mg base 2 "is_hole" ["thing"] (sp_is_hole) := ⟨_, _, Ois_hole, PySem.W.mg_of X G a_is_hole, k_is_hole, F_is_hole.binds (ps := ["thing"]) fun _ _ _ _ _ _ us hl => match us, hl with | [_], _ => rfl, ⟨fun s us ws _ hl => match us, ws, hl with | [], [_], _ => .of_eq rfl, fun {vs us zs ws} h1 h2 => by cases h1 with | nil => exact h2 | cons _ _ => exact .nil⟩⟩
  have F_is_word := fun_mk (st := s_is_word) l_is_word c_is_word k_is_word
  have Ois_word := fn_ok (P := P) (w := w) (mg := mg) (base := base) (k := 0) (sp := sp_is_word) F_is_word sc_is_word (by intro ds m P W h; unfold sp_is_word at h; first | (rcases h with ⟨_, rfl, _⟩ | ⟨_, rfl, _⟩ <;> rfl) | (rcases h with ⟨_, rfl, _⟩ | ⟨_, _, rfl, _⟩ <;> rfl) | (rcases h with ⟨_, rfl, _⟩ | ⟨_, _, _, rfl, _⟩ <;> rfl) | (rcases h with ⟨_, _, rfl, _⟩ | ⟨_, rfl, _⟩ <;> rfl) | (rcases h with ⟨_, _, rfl, _⟩ | ⟨_, _, rfl, _⟩ <;> rfl) | (rcases h with ⟨_, _, rfl, _⟩ | ⟨_, _, _, rfl, _⟩ <;> rfl) | (rcases h with ⟨_, _, _, rfl, _⟩ | ⟨_, rfl, _⟩ <;> rfl) | (rcases h with ⟨_, _, _, rfl, _⟩ | ⟨_, _, rfl, _⟩ <;> rfl) | (rcases h with ⟨_, _, _, rfl, _⟩ | ⟨_, _, _, rfl, _⟩ <;> rfl) | (obtain ⟨_, rfl, _⟩ := h; rfl) | (obtain ⟨_, _, rfl, _⟩ := h; rfl) | (obtain ⟨_, _, _, rfl, _⟩ := h; rfl) | (obtain ⟨_, _, _, _, rfl, _⟩ := h; rfl) | (obtain ⟨_, _, _, _, _, rfl, _⟩ := h; rfl) | (obtain ⟨_, _, _, _, _, _, rfl, _⟩ := h; rfl) | (obtain ⟨_, _, _, _, _, _, _, rfl, _⟩ := h; rfl) | (obtain ⟨_, _, _, _, _, _, _, _, rfl, _⟩ := h; rfl) | (obtain ⟨_, _, _, _, _, _, _, _, _, rfl, _⟩ := h; rfl) | exact h.elim) (fun cdv A outer s H E S0 W hr tk => ab_is_word G_LETTERS G_LONGEST_WORD G_SILENT G_WORD_SIGNS T cdv A outer s H E S0 W hr tk) (rd_is_word)
  have Gis_word : Cal P w K mg base 1 "is_word" ["thing"] (sp_is_word) := ⟨_, _, Ois_word, PySem.W.mg_of X G a_is_word, k_is_word, F_is_word.binds (ps := ["thing"]) fun _ _ _ _ _ _ us hl => match us, hl with | [_], _ => rfl, ⟨fun s us ws _ hl => match us, ws, hl with | [], [_], _ => .of_eq rfl, fun {vs us zs ws} h1 h2 => by cases h1 with | nil => exact h2 | cons _ _ => exact .nil⟩⟩
  have F_is_number_to := fun_mk (st := s_is_number_to) l_is_number_to c_is_number_to k_is_number_to
  have Ois_number_to := fn_ok (P := P) (w := w) (mg := mg) (base := base) (k := 1) (sp := sp_is_number_to) F_is_number_to sc_is_number_to (by intro ds m P W h; unfold sp_is_number_to at h; first | (rcases h with ⟨_, rfl, _⟩ | ⟨_, rfl, _⟩ <;> rfl) | (rcases h with ⟨_, rfl, _⟩ | ⟨_, _, rfl, _⟩ <;> rfl) | (rcases h with ⟨_, rfl, _⟩ | ⟨_, _, _, rfl, _⟩ <;> rfl) | (rcases h with ⟨_, _, rfl, _⟩ | ⟨_, rfl, _⟩ <;> rfl) | (rcases h with ⟨_, _, rfl, _⟩ | ⟨_, _, rfl, _⟩ <;> rfl) | (rcases h with ⟨_, _, rfl, _⟩ | ⟨_, _, _, rfl, _⟩ <;> rfl) | (rcases h with ⟨_, _, _, rfl, _⟩ | ⟨_, rfl, _⟩ <;> rfl) | (rcases h with ⟨_, _, _, rfl, _⟩ | ⟨_, _, rfl, _⟩ <;> rfl) | (rcases h with ⟨_, _, _, rfl, _⟩ | ⟨_, _, _, rfl, _⟩ <;> rfl) | (obtain ⟨_, rfl, _⟩ := h; rfl) | (obtain ⟨_, _, rfl, _⟩ := h; rfl) | (obtain ⟨_, _, _, rfl, _⟩ := h; rfl) | (obtain ⟨_, _, _, _, rfl, _⟩ := h; rfl) | (obtain ⟨_, _, _, _, _, rfl, _⟩ := h; rfl) | (obtain ⟨_, _, _, _, _, _, rfl, _⟩ := h; rfl) | (obtain ⟨_, _, _, _, _, _, _, rfl, _⟩ := h; rfl) | (obtain ⟨_, _, _, _, _, _, _, _, rfl, _⟩ := h; rfl) | (obtain ⟨_, _, _, _, _, _, _, _, _, rfl, _⟩ := h; rfl) | exact h.elim) (fun cdv A outer s H E S0 W hr tk => ab_is_number_to Gis_number cdv A outer s H E S0 W hr tk) (rd_is_number_to)
  have Gis_number_to : Cal P w K mg base 2 "is_number_to" ["thing", "most"] (sp_is_number_to) := ⟨_, _, Ois_number_to, PySem.W.mg_of X G a_is_number_to, k_is_number_to, F_is_number_to.binds (ps := ["thing", "most"]) fun _ _ _ _ _ _ us hl => match us, hl with | [_, _], _ => rfl, ⟨fun s us ws _ hl => match us, ws, hl with | [], [_, _], _ => .of_eq rfl, fun {vs us zs ws} h1 h2 => by cases h1 with | nil => exact h2 | cons _ _ => exact .nil⟩⟩
  have F_is_symbol := fun_mk (st := s_is_symbol) l_is_symbol c_is_symbol k_is_symbol
  have Ois_symbol := fn_ok (P := P) (w := w) (mg := mg) (base := base) (k := 2) (sp := sp_is_symbol) F_is_symbol sc_is_symbol (by intro ds m P W h; unfold sp_is_symbol at h; first | (rcases h with ⟨_, rfl, _⟩ | ⟨_, rfl, _⟩ <;> rfl) | (rcases h with ⟨_, rfl, _⟩ | ⟨_, _, rfl, _⟩ <;> rfl) | (rcases h with ⟨_, rfl, _⟩ | ⟨_, _, _, rfl, _⟩ <;> rfl) | (rcases h with ⟨_, _, rfl, _⟩ | ⟨_, rfl, _⟩ <;> rfl) | (rcases h with ⟨_, _, rfl, _⟩ | ⟨_, _, rfl, _⟩ <;> rfl) | (rcases h with ⟨_, _, rfl, _⟩ | ⟨_, _, _, rfl, _⟩ <;> rfl) | (rcases h with ⟨_, _, _, rfl, _⟩ | ⟨_, rfl, _⟩ <;> rfl) | (rcases h with ⟨_, _, _, rfl, _⟩ | ⟨_, _, rfl, _⟩ <;> rfl) | (rcases h with ⟨_, _, _, rfl, _⟩ | ⟨_, _, _, rfl, _⟩ <;> rfl) | (obtain ⟨_, rfl, _⟩ := h; rfl) | (obtain ⟨_, _, rfl, _⟩ := h; rfl) | (obtain ⟨_, _, _, rfl, _⟩ := h; rfl) | (obtain ⟨_, _, _, _, rfl, _⟩ := h; rfl) | (obtain ⟨_, _, _, _, _, rfl, _⟩ := h; rfl) | (obtain ⟨_, _, _, _, _, _, rfl, _⟩ := h; rfl) | (obtain ⟨_, _, _, _, _, _, _, rfl, _⟩ := h; rfl) | (obtain ⟨_, _, _, _, _, _, _, _, rfl, _⟩ := h; rfl) | (obtain ⟨_, _, _, _, _, _, _, _, _, rfl, _⟩ := h; rfl) | exact h.elim) (fun cdv A outer s H E S0 W hr tk => ab_is_symbol G_MOST_PARTS G_SILENT Gis_number_to Gis_word T cdv A outer s H E S0 W hr tk) (rd_is_symbol)
  have Gis_symbol : Cal P w K mg base 3 "is_symbol" ["thing"] (sp_is_symbol) := ⟨_, _, Ois_symbol, PySem.W.mg_of X G a_is_symbol, k_is_symbol, F_is_symbol.binds (ps := ["thing"]) fun _ _ _ _ _ _ us hl => match us, hl with | [_], _ => rfl, ⟨fun s us ws _ hl => match us, ws, hl with | [], [_], _ => .of_eq rfl, fun {vs us zs ws} h1 h2 => by cases h1 with | nil => exact h2 | cons _ _ => exact .nil⟩⟩
  have F_fault_of := fun_mk (st := s_fault_of) l_fault_of c_fault_of k_fault_of
  have Ofault_of := fn_ok (P := P) (w := w) (mg := mg) (base := base) (k := 3) (sp := sp_fault_of) F_fault_of sc_fault_of (by intro ds m P W h; unfold sp_fault_of at h; first | (rcases h with ⟨_, rfl, _⟩ | ⟨_, rfl, _⟩ <;> rfl) | (rcases h with ⟨_, rfl, _⟩ | ⟨_, _, rfl, _⟩ <;> rfl) | (rcases h with ⟨_, rfl, _⟩ | ⟨_, _, _, rfl, _⟩ <;> rfl) | (rcases h with ⟨_, _, rfl, _⟩ | ⟨_, rfl, _⟩ <;> rfl) | (rcases h with ⟨_, _, rfl, _⟩ | ⟨_, _, rfl, _⟩ <;> rfl) | (rcases h with ⟨_, _, rfl, _⟩ | ⟨_, _, _, rfl, _⟩ <;> rfl) | (rcases h with ⟨_, _, _, rfl, _⟩ | ⟨_, rfl, _⟩ <;> rfl) | (rcases h with ⟨_, _, _, rfl, _⟩ | ⟨_, _, rfl, _⟩ <;> rfl) | (rcases h with ⟨_, _, _, rfl, _⟩ | ⟨_, _, _, rfl, _⟩ <;> rfl) | (obtain ⟨_, rfl, _⟩ := h; rfl) | (obtain ⟨_, _, rfl, _⟩ := h; rfl) | (obtain ⟨_, _, _, rfl, _⟩ := h; rfl) | (obtain ⟨_, _, _, _, rfl, _⟩ := h; rfl) | (obtain ⟨_, _, _, _, _, rfl, _⟩ := h; rfl) | (obtain ⟨_, _, _, _, _, _, rfl, _⟩ := h; rfl) | (obtain ⟨_, _, _, _, _, _, _, rfl, _⟩ := h; rfl) | (obtain ⟨_, _, _, _, _, _, _, _, rfl, _⟩ := h; rfl) | (obtain ⟨_, _, _, _, _, _, _, _, _, rfl, _⟩ := h; rfl) | exact h.elim) (fun cdv A outer s H E S0 W hr tk => ab_fault_of Gis_hole Gis_symbol T cdv A outer s H E S0 W hr tk) (rd_fault_of)
  have Gfault_of : Cal P w K mg base 4 "fault_of" ["thing", "may_have_holes"] (sp_fault_of) := ⟨_, _, Ofault_of, PySem.W.mg_of X G a_fault_of, k_fault_of, F_fault_of.binds (ps := ["thing", "may_have_holes"]) fun _ _ _ _ _ _ us hl => match us, hl with | [_, _], _ => rfl, ⟨fun s us ws _ hl => match us, ws, hl with | [], [_, _], _ => .of_eq rfl, fun {vs us zs ws} h1 h2 => by cases h1 with | nil => exact h2 | cons _ _ => exact .nil⟩⟩
  have F_is_tree := fun_mk (st := s_is_tree) l_is_tree c_is_tree k_is_tree
  have Ois_tree := fn_ok (P := P) (w := w) (mg := mg) (base := base) (k := 4) (sp := sp_is_tree) F_is_tree sc_is_tree (by intro ds m P W h; unfold sp_is_tree at h; first | (rcases h with ⟨_, rfl, _⟩ | ⟨_, rfl, _⟩ <;> rfl) | (rcases h with ⟨_, rfl, _⟩ | ⟨_, _, rfl, _⟩ <;> rfl) | (rcases h with ⟨_, rfl, _⟩ | ⟨_, _, _, rfl, _⟩ <;> rfl) | (rcases h with ⟨_, _, rfl, _⟩ | ⟨_, rfl, _⟩ <;> rfl) | (rcases h with ⟨_, _, rfl, _⟩ | ⟨_, _, rfl, _⟩ <;> rfl) | (rcases h with ⟨_, _, rfl, _⟩ | ⟨_, _, _, rfl, _⟩ <;> rfl) | (rcases h with ⟨_, _, _, rfl, _⟩ | ⟨_, rfl, _⟩ <;> rfl) | (rcases h with ⟨_, _, _, rfl, _⟩ | ⟨_, _, rfl, _⟩ <;> rfl) | (rcases h with ⟨_, _, _, rfl, _⟩ | ⟨_, _, _, rfl, _⟩ <;> rfl) | (obtain ⟨_, rfl, _⟩ := h; rfl) | (obtain ⟨_, _, rfl, _⟩ := h; rfl) | (obtain ⟨_, _, _, rfl, _⟩ := h; rfl) | (obtain ⟨_, _, _, _, rfl, _⟩ := h; rfl) | (obtain ⟨_, _, _, _, _, rfl, _⟩ := h; rfl) | (obtain ⟨_, _, _, _, _, _, rfl, _⟩ := h; rfl) | (obtain ⟨_, _, _, _, _, _, _, rfl, _⟩ := h; rfl) | (obtain ⟨_, _, _, _, _, _, _, _, rfl, _⟩ := h; rfl) | (obtain ⟨_, _, _, _, _, _, _, _, _, rfl, _⟩ := h; rfl) | exact h.elim) (fun cdv A outer s H E S0 W hr tk => ab_is_tree Gfault_of cdv A outer s H E S0 W hr tk) (rd_is_tree)
  have Gis_tree : Cal P w K mg base 5 "is_tree" ["thing"] (sp_is_tree) := ⟨_, _, Ois_tree, PySem.W.mg_of X G a_is_tree, k_is_tree, F_is_tree.binds (ps := ["thing"]) fun _ _ _ _ _ _ us hl => match us, hl with | [_], _ => rfl, ⟨fun s us ws _ hl => match us, ws, hl with | [], [_], _ => .of_eq rfl, fun {vs us zs ws} h1 h2 => by cases h1 with | nil => exact h2 | cons _ _ => exact .nil⟩⟩
  have F_order_key := fun_mk (st := s_order_key) l_order_key c_order_key k_order_key
  have Oorder_key := fn_ok (P := P) (w := w) (mg := mg) (base := base) (k := 0) (sp := sp_order_key) F_order_key sc_order_key (by intro ds m P W h; unfold sp_order_key at h; first | (rcases h with ⟨_, rfl, _⟩ | ⟨_, rfl, _⟩ <;> rfl) | (rcases h with ⟨_, rfl, _⟩ | ⟨_, _, rfl, _⟩ <;> rfl) | (rcases h with ⟨_, rfl, _⟩ | ⟨_, _, _, rfl, _⟩ <;> rfl) | (rcases h with ⟨_, _, rfl, _⟩ | ⟨_, rfl, _⟩ <;> rfl) | (rcases h with ⟨_, _, rfl, _⟩ | ⟨_, _, rfl, _⟩ <;> rfl) | (rcases h with ⟨_, _, rfl, _⟩ | ⟨_, _, _, rfl, _⟩ <;> rfl) | (rcases h with ⟨_, _, _, rfl, _⟩ | ⟨_, rfl, _⟩ <;> rfl) | (rcases h with ⟨_, _, _, rfl, _⟩ | ⟨_, _, rfl, _⟩ <;> rfl) | (rcases h with ⟨_, _, _, rfl, _⟩ | ⟨_, _, _, rfl, _⟩ <;> rfl) | (obtain ⟨_, rfl, _⟩ := h; rfl) | (obtain ⟨_, _, rfl, _⟩ := h; rfl) | (obtain ⟨_, _, _, rfl, _⟩ := h; rfl) | (obtain ⟨_, _, _, _, rfl, _⟩ := h; rfl) | (obtain ⟨_, _, _, _, _, rfl, _⟩ := h; rfl) | (obtain ⟨_, _, _, _, _, _, rfl, _⟩ := h; rfl) | (obtain ⟨_, _, _, _, _, _, _, rfl, _⟩ := h; rfl) | (obtain ⟨_, _, _, _, _, _, _, _, rfl, _⟩ := h; rfl) | (obtain ⟨_, _, _, _, _, _, _, _, _, rfl, _⟩ := h; rfl) | exact h.elim) (fun cdv A outer s H E S0 W hr tk => ab_order_key T cdv A outer s H E S0 W hr tk) (rd_order_key)
  have Gorder_key : Cal P w K mg base 1 "order_key" ["tree"] (sp_order_key) := ⟨_, _, Oorder_key, PySem.W.mg_of X G a_order_key, k_order_key, F_order_key.binds (ps := ["tree"]) fun _ _ _ _ _ _ us hl => match us, hl with | [_], _ => rfl, ⟨fun s us ws _ hl => match us, ws, hl with | [], [_], _ => .of_eq rfl, fun {vs us zs ws} h1 h2 => by cases h1 with | nil => exact h2 | cons _ _ => exact .nil⟩⟩
  have Y_order_key : KeyFn P w K mg base "order_key" := keyFn_of (y := "tree") F_order_key (PySem.W.mg_of X G a_order_key) (F_order_key.binds (ps := ["tree"]) fun _ _ _ _ _ _ us hl => match us, hl with | [_], _ => rfl) sc_order_key rfl (PySem.W.mg_none_of X G z_len) rfl rfl rfl rfl
  have F_is_ahead := fun_mk (st := s_is_ahead) l_is_ahead c_is_ahead k_is_ahead
  have Ois_ahead := fn_ok (P := P) (w := w) (mg := mg) (base := base) (k := 5) (sp := sp_is_ahead C_NotUsable) F_is_ahead sc_is_ahead (by intro ds m P W h; unfold sp_is_ahead at h; first | (rcases h with ⟨_, rfl, _⟩ | ⟨_, rfl, _⟩ <;> rfl) | (rcases h with ⟨_, rfl, _⟩ | ⟨_, _, rfl, _⟩ <;> rfl) | (rcases h with ⟨_, rfl, _⟩ | ⟨_, _, _, rfl, _⟩ <;> rfl) | (rcases h with ⟨_, _, rfl, _⟩ | ⟨_, rfl, _⟩ <;> rfl) | (rcases h with ⟨_, _, rfl, _⟩ | ⟨_, _, rfl, _⟩ <;> rfl) | (rcases h with ⟨_, _, rfl, _⟩ | ⟨_, _, _, rfl, _⟩ <;> rfl) | (rcases h with ⟨_, _, _, rfl, _⟩ | ⟨_, rfl, _⟩ <;> rfl) | (rcases h with ⟨_, _, _, rfl, _⟩ | ⟨_, _, rfl, _⟩ <;> rfl) | (rcases h with ⟨_, _, _, rfl, _⟩ | ⟨_, _, _, rfl, _⟩ <;> rfl) | (obtain ⟨_, rfl, _⟩ := h; rfl) | (obtain ⟨_, _, rfl, _⟩ := h; rfl) | (obtain ⟨_, _, _, rfl, _⟩ := h; rfl) | (obtain ⟨_, _, _, _, rfl, _⟩ := h; rfl) | (obtain ⟨_, _, _, _, _, rfl, _⟩ := h; rfl) | (obtain ⟨_, _, _, _, _, _, rfl, _⟩ := h; rfl) | (obtain ⟨_, _, _, _, _, _, _, rfl, _⟩ := h; rfl) | (obtain ⟨_, _, _, _, _, _, _, _, rfl, _⟩ := h; rfl) | (obtain ⟨_, _, _, _, _, _, _, _, _, rfl, _⟩ := h; rfl) | exact h.elim) (fun cdv A outer s H E S0 W hr tk => ab_is_ahead Gis_tree Gneed Gorder_key cdv A outer s H E S0 W hr tk) (rd_is_ahead)
  have Gis_ahead : Cal P w K mg base 6 "is_ahead" ["tree", "other"] (sp_is_ahead C_NotUsable) := ⟨_, _, Ois_ahead, PySem.W.mg_of X G a_is_ahead, k_is_ahead, F_is_ahead.binds (ps := ["tree", "other"]) fun _ _ _ _ _ _ us hl => match us, hl with | [_, _], _ => rfl, ⟨fun s us ws _ hl => match us, ws, hl with | [], [_, _], _ => .of_eq rfl, fun {vs us zs ws} h1 h2 => by cases h1 with | nil => exact h2 | cons _ _ => exact .nil⟩⟩
  have Sis_ahead : CalS P w K mg base 6 "is_ahead" ["tree", "other"] (sp_is_ahead C_NotUsable) := ⟨_, _, Ois_ahead, PySem.W.mg_of X G a_is_ahead, k_is_ahead, kswap fun s a b => .of_eq rfl⟩
  have F_is_node := fun_mk (st := s_is_node) l_is_node c_is_node k_is_node
  have Ois_node := fn_ok (P := P) (w := w) (mg := mg) (base := base) (k := 1) (sp := sp_is_node) F_is_node sc_is_node (by intro ds m P W h; unfold sp_is_node at h; first | (rcases h with ⟨_, rfl, _⟩ | ⟨_, rfl, _⟩ <;> rfl) | (rcases h with ⟨_, rfl, _⟩ | ⟨_, _, rfl, _⟩ <;> rfl) | (rcases h with ⟨_, rfl, _⟩ | ⟨_, _, _, rfl, _⟩ <;> rfl) | (rcases h with ⟨_, _, rfl, _⟩ | ⟨_, rfl, _⟩ <;> rfl) | (rcases h with ⟨_, _, rfl, _⟩ | ⟨_, _, rfl, _⟩ <;> rfl) | (rcases h with ⟨_, _, rfl, _⟩ | ⟨_, _, _, rfl, _⟩ <;> rfl) | (rcases h with ⟨_, _, _, rfl, _⟩ | ⟨_, rfl, _⟩ <;> rfl) | (rcases h with ⟨_, _, _, rfl, _⟩ | ⟨_, _, rfl, _⟩ <;> rfl) | (rcases h with ⟨_, _, _, rfl, _⟩ | ⟨_, _, _, rfl, _⟩ <;> rfl) | (obtain ⟨_, rfl, _⟩ := h; rfl) | (obtain ⟨_, _, rfl, _⟩ := h; rfl) | (obtain ⟨_, _, _, rfl, _⟩ := h; rfl) | (obtain ⟨_, _, _, _, rfl, _⟩ := h; rfl) | (obtain ⟨_, _, _, _, _, rfl, _⟩ := h; rfl) | (obtain ⟨_, _, _, _, _, _, rfl, _⟩ := h; rfl) | (obtain ⟨_, _, _, _, _, _, _, rfl, _⟩ := h; rfl) | (obtain ⟨_, _, _, _, _, _, _, _, rfl, _⟩ := h; rfl) | (obtain ⟨_, _, _, _, _, _, _, _, _, rfl, _⟩ := h; rfl) | exact h.elim) (fun cdv A outer s H E S0 W hr tk => ab_is_node Gis_number T cdv A outer s H E S0 W hr tk) (rd_is_node)
  have Gis_node : Cal P w K mg base 2 "is_node" ["thing", "tree"] (sp_is_node) := ⟨_, _, Ois_node, PySem.W.mg_of X G a_is_node, k_is_node, F_is_node.binds (ps := ["thing", "tree"]) fun _ _ _ _ _ _ us hl => match us, hl with | [_, _], _ => rfl, ⟨fun s us ws _ hl => match us, ws, hl with | [], [_, _], _ => .of_eq rfl, fun {vs us zs ws} h1 h2 => by cases h1 with | nil => exact h2 | cons _ _ => exact .nil⟩⟩
  have F_end_of := fun_mk (st := s_end_of) l_end_of c_end_of k_end_of
  have Oend_of := fn_ok (P := P) (w := w) (mg := mg) (base := base) (k := 0) (sp := sp_end_of) F_end_of sc_end_of (by intro ds m P W h; unfold sp_end_of at h; first | (rcases h with ⟨_, rfl, _⟩ | ⟨_, rfl, _⟩ <;> rfl) | (rcases h with ⟨_, rfl, _⟩ | ⟨_, _, rfl, _⟩ <;> rfl) | (rcases h with ⟨_, rfl, _⟩ | ⟨_, _, _, rfl, _⟩ <;> rfl) | (rcases h with ⟨_, _, rfl, _⟩ | ⟨_, rfl, _⟩ <;> rfl) | (rcases h with ⟨_, _, rfl, _⟩ | ⟨_, _, rfl, _⟩ <;> rfl) | (rcases h with ⟨_, _, rfl, _⟩ | ⟨_, _, _, rfl, _⟩ <;> rfl) | (rcases h with ⟨_, _, _, rfl, _⟩ | ⟨_, rfl, _⟩ <;> rfl) | (rcases h with ⟨_, _, _, rfl, _⟩ | ⟨_, _, rfl, _⟩ <;> rfl) | (rcases h with ⟨_, _, _, rfl, _⟩ | ⟨_, _, _, rfl, _⟩ <;> rfl) | (obtain ⟨_, rfl, _⟩ := h; rfl) | (obtain ⟨_, _, rfl, _⟩ := h; rfl) | (obtain ⟨_, _, _, rfl, _⟩ := h; rfl) | (obtain ⟨_, _, _, _, rfl, _⟩ := h; rfl) | (obtain ⟨_, _, _, _, _, rfl, _⟩ := h; rfl) | (obtain ⟨_, _, _, _, _, _, rfl, _⟩ := h; rfl) | (obtain ⟨_, _, _, _, _, _, _, rfl, _⟩ := h; rfl) | (obtain ⟨_, _, _, _, _, _, _, _, rfl, _⟩ := h; rfl) | (obtain ⟨_, _, _, _, _, _, _, _, _, rfl, _⟩ := h; rfl) | exact h.elim) (fun cdv A outer s H E S0 W hr tk => ab_end_of  cdv A outer s H E S0 W hr tk) (rd_end_of)
  have Gend_of : Cal P w K mg base 1 "end_of" ["tree", "node"] (sp_end_of) := ⟨_, _, Oend_of, PySem.W.mg_of X G a_end_of, k_end_of, F_end_of.binds (ps := ["tree", "node"]) fun _ _ _ _ _ _ us hl => match us, hl with | [_, _], _ => rfl, ⟨fun s us ws _ hl => match us, ws, hl with | [], [_, _], _ => .of_eq rfl, fun {vs us zs ws} h1 h2 => by cases h1 with | nil => exact h2 | cons _ _ => exact .nil⟩⟩
  have F_with_piece := fun_mk (st := s_with_piece) l_with_piece c_with_piece k_with_piece
  have Owith_piece := fn_ok (P := P) (w := w) (mg := mg) (base := base) (k := 5) (sp := sp_with_piece C_NotUsable) F_with_piece sc_with_piece (by intro ds m P W h; unfold sp_with_piece at h; first | (rcases h with ⟨_, rfl, _⟩ | ⟨_, rfl, _⟩ <;> rfl) | (rcases h with ⟨_, rfl, _⟩ | ⟨_, _, rfl, _⟩ <;> rfl) | (rcases h with ⟨_, rfl, _⟩ | ⟨_, _, _, rfl, _⟩ <;> rfl) | (rcases h with ⟨_, _, rfl, _⟩ | ⟨_, rfl, _⟩ <;> rfl) | (rcases h with ⟨_, _, rfl, _⟩ | ⟨_, _, rfl, _⟩ <;> rfl) | (rcases h with ⟨_, _, rfl, _⟩ | ⟨_, _, _, rfl, _⟩ <;> rfl) | (rcases h with ⟨_, _, _, rfl, _⟩ | ⟨_, rfl, _⟩ <;> rfl) | (rcases h with ⟨_, _, _, rfl, _⟩ | ⟨_, _, rfl, _⟩ <;> rfl) | (rcases h with ⟨_, _, _, rfl, _⟩ | ⟨_, _, _, rfl, _⟩ <;> rfl) | (obtain ⟨_, rfl, _⟩ := h; rfl) | (obtain ⟨_, _, rfl, _⟩ := h; rfl) | (obtain ⟨_, _, _, rfl, _⟩ := h; rfl) | (obtain ⟨_, _, _, _, rfl, _⟩ := h; rfl) | (obtain ⟨_, _, _, _, _, rfl, _⟩ := h; rfl) | (obtain ⟨_, _, _, _, _, _, rfl, _⟩ := h; rfl) | (obtain ⟨_, _, _, _, _, _, _, rfl, _⟩ := h; rfl) | (obtain ⟨_, _, _, _, _, _, _, _, rfl, _⟩ := h; rfl) | (obtain ⟨_, _, _, _, _, _, _, _, _, rfl, _⟩ := h; rfl) | exact h.elim) (fun cdv A outer s H E S0 W hr tk => ab_with_piece Gend_of Gis_node Gis_tree Gneed cdv A outer s H E S0 W hr tk) (rd_with_piece)
  have Gwith_piece : Cal P w K mg base 6 "with_piece" ["tree", "node", "piece"] (sp_with_piece C_NotUsable) := ⟨_, _, Owith_piece, PySem.W.mg_of X G a_with_piece, k_with_piece, F_with_piece.binds (ps := ["tree", "node", "piece"]) fun _ _ _ _ _ _ us hl => match us, hl with | [_, _, _], _ => rfl, ⟨fun s us ws _ hl => match us, ws, hl with | [], [_, _, _], _ => .of_eq rfl, fun {vs us zs ws} h1 h2 => by cases h1 with | nil => exact h2 | cons _ _ => exact .nil⟩⟩
  have F_law_wholes := fun_mk (st := s_law_wholes) l_law_wholes c_law_wholes k_law_wholes
  have Olaw_wholes := fn_ok (P := P) (w := w) (mg := mg) (base := base) (k := 6) (sp := sp_law_wholes) F_law_wholes sc_law_wholes (by intro ds m P W h; unfold sp_law_wholes at h; first | (rcases h with ⟨_, rfl, _⟩ | ⟨_, rfl, _⟩ <;> rfl) | (rcases h with ⟨_, rfl, _⟩ | ⟨_, _, rfl, _⟩ <;> rfl) | (rcases h with ⟨_, rfl, _⟩ | ⟨_, _, _, rfl, _⟩ <;> rfl) | (rcases h with ⟨_, _, rfl, _⟩ | ⟨_, rfl, _⟩ <;> rfl) | (rcases h with ⟨_, _, rfl, _⟩ | ⟨_, _, rfl, _⟩ <;> rfl) | (rcases h with ⟨_, _, rfl, _⟩ | ⟨_, _, _, rfl, _⟩ <;> rfl) | (rcases h with ⟨_, _, _, rfl, _⟩ | ⟨_, rfl, _⟩ <;> rfl) | (rcases h with ⟨_, _, _, rfl, _⟩ | ⟨_, _, rfl, _⟩ <;> rfl) | (rcases h with ⟨_, _, _, rfl, _⟩ | ⟨_, _, _, rfl, _⟩ <;> rfl) | (obtain ⟨_, rfl, _⟩ := h; rfl) | (obtain ⟨_, _, rfl, _⟩ := h; rfl) | (obtain ⟨_, _, _, rfl, _⟩ := h; rfl) | (obtain ⟨_, _, _, _, rfl, _⟩ := h; rfl) | (obtain ⟨_, _, _, _, _, rfl, _⟩ := h; rfl) | (obtain ⟨_, _, _, _, _, _, rfl, _⟩ := h; rfl) | (obtain ⟨_, _, _, _, _, _, _, rfl, _⟩ := h; rfl) | (obtain ⟨_, _, _, _, _, _, _, _, rfl, _⟩ := h; rfl) | (obtain ⟨_, _, _, _, _, _, _, _, _, rfl, _⟩ := h; rfl) | exact h.elim) (fun cdv A outer s H E S0 W hr tk => ab_law_wholes Gis_ahead Glaw_before Glaw_far Glaw_pick Glaw_same Glaw_tree Gwith_piece T cdv A outer s H E S0 W hr tk) (rd_law_wholes)
  have Glaw_wholes : Cal P w K mg base 7 "_law_wholes" ["tape", "marks", "rows"] (sp_law_wholes) := ⟨_, _, Olaw_wholes, PySem.W.mg_of X G a_law_wholes, k_law_wholes, F_law_wholes.binds (ps := ["tape", "marks", "rows"]) fun _ _ _ _ _ _ us hl => match us, hl with | [_, _, _], _ => rfl, ⟨fun s us ws _ hl => match us, ws, hl with | [], [_, _, _], _ => .of_eq rfl, fun {vs us zs ws} h1 h2 => by cases h1 with | nil => exact h2 | cons _ _ => exact .nil⟩⟩
  have F_law_asks := fun_mk (st := s_law_asks) l_law_asks c_law_asks k_law_asks
  have Olaw_asks := fn_ok (P := P) (w := w) (mg := mg) (base := base) (k := 6) (sp := sp_law_asks) F_law_asks sc_law_asks (by intro ds m P W h; unfold sp_law_asks at h; first | (rcases h with ⟨_, rfl, _⟩ | ⟨_, rfl, _⟩ <;> rfl) | (rcases h with ⟨_, rfl, _⟩ | ⟨_, _, rfl, _⟩ <;> rfl) | (rcases h with ⟨_, rfl, _⟩ | ⟨_, _, _, rfl, _⟩ <;> rfl) | (rcases h with ⟨_, _, rfl, _⟩ | ⟨_, rfl, _⟩ <;> rfl) | (rcases h with ⟨_, _, rfl, _⟩ | ⟨_, _, rfl, _⟩ <;> rfl) | (rcases h with ⟨_, _, rfl, _⟩ | ⟨_, _, _, rfl, _⟩ <;> rfl) | (rcases h with ⟨_, _, _, rfl, _⟩ | ⟨_, rfl, _⟩ <;> rfl) | (rcases h with ⟨_, _, _, rfl, _⟩ | ⟨_, _, rfl, _⟩ <;> rfl) | (rcases h with ⟨_, _, _, rfl, _⟩ | ⟨_, _, _, rfl, _⟩ <;> rfl) | (obtain ⟨_, rfl, _⟩ := h; rfl) | (obtain ⟨_, _, rfl, _⟩ := h; rfl) | (obtain ⟨_, _, _, rfl, _⟩ := h; rfl) | (obtain ⟨_, _, _, _, rfl, _⟩ := h; rfl) | (obtain ⟨_, _, _, _, _, rfl, _⟩ := h; rfl) | (obtain ⟨_, _, _, _, _, _, rfl, _⟩ := h; rfl) | (obtain ⟨_, _, _, _, _, _, _, rfl, _⟩ := h; rfl) | (obtain ⟨_, _, _, _, _, _, _, _, rfl, _⟩ := h; rfl) | (obtain ⟨_, _, _, _, _, _, _, _, _, rfl, _⟩ := h; rfl) | exact h.elim) (fun cdv A outer s H E S0 W hr tk => ab_law_asks E_NotUsable ⟨_, .ref C_UseError, PySem.W.mg_of X G aUseError, rfl, fun _ => rfl⟩ Gis_ahead H_NotUsable na_NotUsable_at na_NotUsable_word kit_NotUsable_UseError T X_NotUsable cdv A outer s H E S0 W hr tk) (rd_law_asks)
  have Glaw_asks : Cal P w K mg base 7 "_law_asks" ["one", "two"] (sp_law_asks) := ⟨_, _, Olaw_asks, PySem.W.mg_of X G a_law_asks, k_law_asks, F_law_asks.binds (ps := ["one", "two"]) fun _ _ _ _ _ _ us hl => match us, hl with | [_, _], _ => rfl, ⟨fun s us ws _ hl => match us, ws, hl with | [], [_, _], _ => .of_eq rfl, fun {vs us zs ws} h1 h2 => by cases h1 with | nil => exact h2 | cons _ _ => exact .nil⟩⟩
  have F_law_refusals := fun_mk (st := s_law_refusals) l_law_refusals c_law_refusals k_law_refusals
  have Olaw_refusals := fn_ok (P := P) (w := w) (mg := mg) (base := base) (k := 7) (sp := sp_law_refusals) F_law_refusals sc_law_refusals (by intro ds m P W h; unfold sp_law_refusals at h; first | (rcases h with ⟨_, rfl, _⟩ | ⟨_, rfl, _⟩ <;> rfl) | (rcases h with ⟨_, rfl, _⟩ | ⟨_, _, rfl, _⟩ <;> rfl) | (rcases h with ⟨_, rfl, _⟩ | ⟨_, _, _, rfl, _⟩ <;> rfl) | (rcases h with ⟨_, _, rfl, _⟩ | ⟨_, rfl, _⟩ <;> rfl) | (rcases h with ⟨_, _, rfl, _⟩ | ⟨_, _, rfl, _⟩ <;> rfl) | (rcases h with ⟨_, _, rfl, _⟩ | ⟨_, _, _, rfl, _⟩ <;> rfl) | (rcases h with ⟨_, _, _, rfl, _⟩ | ⟨_, rfl, _⟩ <;> rfl) | (rcases h with ⟨_, _, _, rfl, _⟩ | ⟨_, _, rfl, _⟩ <;> rfl) | (rcases h with ⟨_, _, _, rfl, _⟩ | ⟨_, _, _, rfl, _⟩ <;> rfl) | (obtain ⟨_, rfl, _⟩ := h; rfl) | (obtain ⟨_, _, rfl, _⟩ := h; rfl) | (obtain ⟨_, _, _, rfl, _⟩ := h; rfl) | (obtain ⟨_, _, _, _, rfl, _⟩ := h; rfl) | (obtain ⟨_, _, _, _, _, rfl, _⟩ := h; rfl) | (obtain ⟨_, _, _, _, _, _, rfl, _⟩ := h; rfl) | (obtain ⟨_, _, _, _, _, _, _, rfl, _⟩ := h; rfl) | (obtain ⟨_, _, _, _, _, _, _, _, rfl, _⟩ := h; rfl) | (obtain ⟨_, _, _, _, _, _, _, _, _, rfl, _⟩ := h; rfl) | exact h.elim) (fun cdv A outer s H E S0 W hr tk => ab_law_refusals Glaw_asks Glaw_pick Glaw_same T cdv A outer s H E S0 W hr tk) (rd_law_refusals)
  have Glaw_refusals : Cal P w K mg base 8 "_law_refusals" ["tape", "tall"] (sp_law_refusals) := ⟨_, _, Olaw_refusals, PySem.W.mg_of X G a_law_refusals, k_law_refusals, F_law_refusals.binds (ps := ["tape", "tall"]) fun _ _ _ _ _ _ us hl => match us, hl with | [_, _], _ => rfl, ⟨fun s us ws _ hl => match us, ws, hl with | [], [_, _], _ => .of_eq rfl, fun {vs us zs ws} h1 h2 => by cases h1 with | nil => exact h2 | cons _ _ => exact .nil⟩⟩
  have F_in_order := fun_mk (st := s_in_order) l_in_order c_in_order k_in_order
  have Oin_order := fn_ok (P := P) (w := w) (mg := mg) (base := base) (k := 3) (sp := sp_in_order) F_in_order sc_in_order (by intro ds m P W h; unfold sp_in_order at h; first | (rcases h with ⟨_, rfl, _⟩ | ⟨_, rfl, _⟩ <;> rfl) | (rcases h with ⟨_, rfl, _⟩ | ⟨_, _, rfl, _⟩ <;> rfl) | (rcases h with ⟨_, rfl, _⟩ | ⟨_, _, _, rfl, _⟩ <;> rfl) | (rcases h with ⟨_, _, rfl, _⟩ | ⟨_, rfl, _⟩ <;> rfl) | (rcases h with ⟨_, _, rfl, _⟩ | ⟨_, _, rfl, _⟩ <;> rfl) | (rcases h with ⟨_, _, rfl, _⟩ | ⟨_, _, _, rfl, _⟩ <;> rfl) | (rcases h with ⟨_, _, _, rfl, _⟩ | ⟨_, rfl, _⟩ <;> rfl) | (rcases h with ⟨_, _, _, rfl, _⟩ | ⟨_, _, rfl, _⟩ <;> rfl) | (rcases h with ⟨_, _, _, rfl, _⟩ | ⟨_, _, _, rfl, _⟩ <;> rfl) | (obtain ⟨_, rfl, _⟩ := h; rfl) | (obtain ⟨_, _, rfl, _⟩ := h; rfl) | (obtain ⟨_, _, _, rfl, _⟩ := h; rfl) | (obtain ⟨_, _, _, _, rfl, _⟩ := h; rfl) | (obtain ⟨_, _, _, _, _, rfl, _⟩ := h; rfl) | (obtain ⟨_, _, _, _, _, _, rfl, _⟩ := h; rfl) | (obtain ⟨_, _, _, _, _, _, _, rfl, _⟩ := h; rfl) | (obtain ⟨_, _, _, _, _, _, _, _, rfl, _⟩ := h; rfl) | (obtain ⟨_, _, _, _, _, _, _, _, _, rfl, _⟩ := h; rfl) | exact h.elim) (fun cdv A outer s H E S0 W hr tk => ab_in_order T Y_order_key cdv A outer s H E S0 W hr tk) (rd_in_order)
  have Gin_order : Cal P w K mg base 4 "in_order" ["trees"] (sp_in_order) := ⟨_, _, Oin_order, PySem.W.mg_of X G a_in_order, k_in_order, F_in_order.binds (ps := ["trees"]) fun _ _ _ _ _ _ us hl => match us, hl with | [_], _ => rfl, ⟨fun s us ws _ hl => match us, ws, hl with | [], [_], _ => .of_eq rfl, fun {vs us zs ws} h1 h2 => by cases h1 with | nil => exact h2 | cons _ _ => exact .nil⟩⟩
  have F_least_of := fun_mk (st := s_least_of) l_least_of c_least_of k_least_of
  have Oleast_of := fn_ok (P := P) (w := w) (mg := mg) (base := base) (k := 3) (sp := sp_least_of) F_least_of sc_least_of (by intro ds m P W h; unfold sp_least_of at h; first | (rcases h with ⟨_, rfl, _⟩ | ⟨_, rfl, _⟩ <;> rfl) | (rcases h with ⟨_, rfl, _⟩ | ⟨_, _, rfl, _⟩ <;> rfl) | (rcases h with ⟨_, rfl, _⟩ | ⟨_, _, _, rfl, _⟩ <;> rfl) | (rcases h with ⟨_, _, rfl, _⟩ | ⟨_, rfl, _⟩ <;> rfl) | (rcases h with ⟨_, _, rfl, _⟩ | ⟨_, _, rfl, _⟩ <;> rfl) | (rcases h with ⟨_, _, rfl, _⟩ | ⟨_, _, _, rfl, _⟩ <;> rfl) | (rcases h with ⟨_, _, _, rfl, _⟩ | ⟨_, rfl, _⟩ <;> rfl) | (rcases h with ⟨_, _, _, rfl, _⟩ | ⟨_, _, rfl, _⟩ <;> rfl) | (rcases h with ⟨_, _, _, rfl, _⟩ | ⟨_, _, _, rfl, _⟩ <;> rfl) | (obtain ⟨_, rfl, _⟩ := h; rfl) | (obtain ⟨_, _, rfl, _⟩ := h; rfl) | (obtain ⟨_, _, _, rfl, _⟩ := h; rfl) | (obtain ⟨_, _, _, _, rfl, _⟩ := h; rfl) | (obtain ⟨_, _, _, _, _, rfl, _⟩ := h; rfl) | (obtain ⟨_, _, _, _, _, _, rfl, _⟩ := h; rfl) | (obtain ⟨_, _, _, _, _, _, _, rfl, _⟩ := h; rfl) | (obtain ⟨_, _, _, _, _, _, _, _, rfl, _⟩ := h; rfl) | (obtain ⟨_, _, _, _, _, _, _, _, _, rfl, _⟩ := h; rfl) | exact h.elim) (fun cdv A outer s H E S0 W hr tk => ab_least_of T Y_order_key cdv A outer s H E S0 W hr tk) (rd_least_of)
  have Gleast_of : Cal P w K mg base 4 "least_of" ["trees"] (sp_least_of) := ⟨_, _, Oleast_of, PySem.W.mg_of X G a_least_of, k_least_of, F_least_of.binds (ps := ["trees"]) fun _ _ _ _ _ _ us hl => match us, hl with | [_], _ => rfl, ⟨fun s us ws _ hl => match us, ws, hl with | [], [_], _ => .of_eq rfl, fun {vs us zs ws} h1 h2 => by cases h1 with | nil => exact h2 | cons _ _ => exact .nil⟩⟩
  have F_law := fun_mk (st := s_law) l_law c_law k_law
  have Olaw := fn_ok (P := P) (w := w) (mg := mg) (base := base) (k := 8) (sp := sp_law) F_law sc_law (by intro ds m P W h; unfold sp_law at h; first | (rcases h with ⟨_, rfl, _⟩ | ⟨_, rfl, _⟩ <;> rfl) | (rcases h with ⟨_, rfl, _⟩ | ⟨_, _, rfl, _⟩ <;> rfl) | (rcases h with ⟨_, rfl, _⟩ | ⟨_, _, _, rfl, _⟩ <;> rfl) | (rcases h with ⟨_, _, rfl, _⟩ | ⟨_, rfl, _⟩ <;> rfl) | (rcases h with ⟨_, _, rfl, _⟩ | ⟨_, _, rfl, _⟩ <;> rfl) | (rcases h with ⟨_, _, rfl, _⟩ | ⟨_, _, _, rfl, _⟩ <;> rfl) | (rcases h with ⟨_, _, _, rfl, _⟩ | ⟨_, rfl, _⟩ <;> rfl) | (rcases h with ⟨_, _, _, rfl, _⟩ | ⟨_, _, rfl, _⟩ <;> rfl) | (rcases h with ⟨_, _, _, rfl, _⟩ | ⟨_, _, _, rfl, _⟩ <;> rfl) | (obtain ⟨_, rfl, _⟩ := h; rfl) | (obtain ⟨_, _, rfl, _⟩ := h; rfl) | (obtain ⟨_, _, _, rfl, _⟩ := h; rfl) | (obtain ⟨_, _, _, _, rfl, _⟩ := h; rfl) | (obtain ⟨_, _, _, _, _, rfl, _⟩ := h; rfl) | (obtain ⟨_, _, _, _, _, _, rfl, _⟩ := h; rfl) | (obtain ⟨_, _, _, _, _, _, _, rfl, _⟩ := h; rfl) | (obtain ⟨_, _, _, _, _, _, _, _, rfl, _⟩ := h; rfl) | (obtain ⟨_, _, _, _, _, _, _, _, _, rfl, _⟩ := h; rfl) | exact h.elim) (fun cdv A outer s H E S0 W hr tk => ab_law Gin_order Gis_ahead Glaw_before Glaw_marks Glaw_pick Glaw_refusals Glaw_rows Glaw_same Glaw_sorted Glaw_tape Glaw_wholes Gleast_of Sis_ahead T cdv A outer s H E S0 W hr tk) (rd_law)
  exact Olaw
theorem walk {l : PySem.W.OpenLaw} {q : Program} {loose : List Str} {XP : (Str → Option Value) → Heap → Prop} {YP : World → Heap → Prop} {d : DefRec} {K : Params → PySem.W.Frag} (hn : l.most = some 63) (hdf : d.params.defaults = [])
    (hY : ∀ (w : World) (h : Heap), YP w h → (K w.params).In h)
    (F : ∀ (w : World) (mg : Str → Option Value) (fa : Addr) (h : Heap), (K w.params).In h → h.Ns mainGlobals mg → mg d.name = some (.ref fa) →
      ∃ fd : FuncData, (∀ (s : Shared) (u : Value), BindsTo s fd ⟨[u], []⟩ [("script", u)]) ∧ ∀ base : Heap, (K w.params).In base → base.Ns mainGlobals mg → FnOk l.prog w (K w.params) mg base (L2.CX l.prog w) 9 fa fd ["script"] (lift (K w.params) sp_law)) :
    PySem.W.WalkO q loose XP YP l.row.toRowW d [] (fun f vs => PySem.call f vs) := by
  refine L2.walk_of (n := 63) (k := 9) (x := "script") (CX := fun w => L2.CX l.prog w) (sp := fun w => lift (K w.params) sp_law) hn (by decide) hdf ⟨rfl, by decide, by decide⟩ hY F (fun w H a ns hl hO hS => ?_) fun w H s e s' z => ?_
  · have hR : R (fun _ => none) H = H := rfl
    refine ⟨[.scr ns], fun _ => none, fun d _ => d = .bl true, fun _ _ _ => False, ⟨.ref a, [], rfl, ⟨a, rfl, hS⟩, rfl⟩, fun _ _ z => (by cases z), ⟨ns, rfl, hl, rfl⟩, fun v H' d m' hp _ dv => ?_, fun cls d H' z => (noW z).elim⟩
    subst hp
    exact dv
  · obtain ⟨_, _, _, _, _, _, _, _, _, _, _, _, y⟩ := z
    exact y.elim
end AL
open PySem PySem.W PyProof.Rows in
set_option maxRecDepth 100000 in
set_option maxHeartbeats 0 in
theorem PySem.Challenge.cw_stoodthere_k14_whole_order_of_all_trees_holds : PySem.Challenge.rw_stoodthere_k14_whole_order_of_all_trees.Holds := by
  w_on; o_law; k_head; (case hw => w_witness2)
  k_fill
  refine AL.walk (l := PySem.Challenge.rw_stoodthere_k14_whole_order_of_all_trees) rfl rfl (fun w h Y => PySem.W.kIn_of Y) ?F
  case F =>
    intro w mg fa h KX G hmg
    refine' AL.all_mk KX G hmg ?aNotUsable ?aUseError ?g_HOLE ?gl_HOLE ?g_LETTERS ?g_LONGEST_WORD ?g_MOST_PARTS ?g_SILENT ?g_WORD_SIGNS ?z_len ?z_int ?z_abs ?z_max ?z_min ?z_bool ?z_str ?z_tuple ?z_list ?z_range ?z_isinstance ?z_all ?z_any ?z_ord ?z_enumerate ?z_sorted ?z_set ?z_zip ?z_sum ?z_reversed ?z_repr ?gaNotUsable ?ggNotUsable ?eCNotUsable ?tCNotUsable ?hCNotUsable ?iCNotUsable ?sCNotUsable ?kCNotUsable ?xLNotUsable ?saNotUsable ?na_NotUsable_word ?na_NotUsable_at ?i_NotUsable ?ti_NotUsable ?l_NotUsable_init ?c_NotUsable_init ?k_NotUsable_init ?er_sg ?er_tk ?caNotUsable ?obNotUsable ?iDNotUsable_UseError ?tDNotUsable_UseError ?sDNotUsable_UseError ?a_law_tape ?l_law_tape ?c_law_tape ?k_law_tape ?a_law_pick ?l_law_pick ?c_law_pick ?k_law_pick ?a_law_marks ?l_law_marks ?c_law_marks ?k_law_marks ?a_law_more ?l_law_more ?c_law_more ?k_law_more ?a_law_tree ?l_law_tree ?c_law_tree ?k_law_tree ?a_law_far ?l_law_far ?c_law_far ?k_law_far ?a_law_twin ?l_law_twin ?c_law_twin ?k_law_twin ?a_law_rows ?l_law_rows ?c_law_rows ?k_law_rows ?a_law_numbers ?l_law_numbers ?c_law_numbers ?k_law_numbers ?a_law_before ?l_law_before ?c_law_before ?k_law_before ?a_law_sorted ?l_law_sorted ?c_law_sorted ?k_law_sorted ?a_law_same ?l_law_same ?c_law_same ?k_law_same ?a_need ?l_need ?c_need ?k_need ?a_is_number ?l_is_number ?c_is_number ?k_is_number ?a_is_hole ?l_is_hole ?c_is_hole ?k_is_hole ?a_is_word ?l_is_word ?c_is_word ?k_is_word ?a_is_number_to ?l_is_number_to ?c_is_number_to ?k_is_number_to ?a_is_symbol ?l_is_symbol ?c_is_symbol ?k_is_symbol ?a_fault_of ?l_fault_of ?c_fault_of ?k_fault_of ?a_is_tree ?l_is_tree ?c_is_tree ?k_is_tree ?a_order_key ?l_order_key ?c_order_key ?k_order_key ?a_is_ahead ?l_is_ahead ?c_is_ahead ?k_is_ahead ?a_is_node ?l_is_node ?c_is_node ?k_is_node ?a_end_of ?l_end_of ?c_end_of ?k_end_of ?a_with_piece ?l_with_piece ?c_with_piece ?k_with_piece ?a_law_wholes ?l_law_wholes ?c_law_wholes ?k_law_wholes ?a_law_asks ?l_law_asks ?c_law_asks ?k_law_asks ?a_law_refusals ?l_law_refusals ?c_law_refusals ?k_law_refusals ?a_in_order ?l_in_order ?c_in_order ?k_in_order ?a_least_of ?l_least_of ?c_least_of ?k_least_of ?a_law ?l_law ?c_law ?k_law
    (case aNotUsable => k_is)
    (case aUseError => k_is)
    (case g_HOLE => k_is)
    (case gl_HOLE => k_is)
    (case g_LETTERS => k_is)
    (case g_LONGEST_WORD => k_is)
    (case g_MOST_PARTS => k_is)
    (case g_SILENT => k_is)
    (case g_WORD_SIGNS => k_is)
    (case z_len => k_is)
    (case z_int => k_is)
    (case z_abs => k_is)
    (case z_max => k_is)
    (case z_min => k_is)
    (case z_bool => k_is)
    (case z_str => k_is)
    (case z_tuple => k_is)
    (case z_list => k_is)
    (case z_range => k_is)
    (case z_isinstance => k_is)
    (case z_all => k_is)
    (case z_any => k_is)
    (case z_ord => k_is)
    (case z_enumerate => k_is)
    (case z_sorted => k_is)
    (case z_set => k_is)
    (case z_zip => k_is)
    (case z_sum => k_is)
    (case z_reversed => k_is)
    (case z_repr => k_is)
    (case gaNotUsable => k_is)
    (case ggNotUsable => k_is)
    (case eCNotUsable => k_is)
    (case tCNotUsable => k_is)
    (case hCNotUsable => k_is)
    (case iCNotUsable => k_is)
    (case sCNotUsable => k_is)
    (case kCNotUsable => k_is)
    (case xLNotUsable => k_is)
    (case saNotUsable => k_is)
    (case na_NotUsable_word => k_is)
    (case na_NotUsable_at => k_is)
    (case i_NotUsable => k_is)
    (case ti_NotUsable => k_is)
    (case l_NotUsable_init => k_is)
    (case c_NotUsable_init => k_is)
    (case k_NotUsable_init => k_is)
    (case er_sg => k_is)
    (case er_tk => k_is)
    (case caNotUsable => k_is)
    (case obNotUsable => k_is)
    (case iDNotUsable_UseError => k_is)
    (case tDNotUsable_UseError => k_is)
    (case sDNotUsable_UseError => k_is)
    (case a_law_tape => k_is)
    (case l_law_tape => k_is)
    (case c_law_tape => k_is)
    (case k_law_tape => k_is)
    (case a_law_pick => k_is)
    (case l_law_pick => k_is)
    (case c_law_pick => k_is)
    (case k_law_pick => k_is)
    (case a_law_marks => k_is)
    (case l_law_marks => k_is)
    (case c_law_marks => k_is)
    (case k_law_marks => k_is)
    (case a_law_more => k_is)
    (case l_law_more => k_is)
    (case c_law_more => k_is)
    (case k_law_more => k_is)
    (case a_law_tree => k_is)
    (case l_law_tree => k_is)
    (case c_law_tree => k_is)
    (case k_law_tree => k_is)
    (case a_law_far => k_is)
    (case l_law_far => k_is)
    (case c_law_far => k_is)
    (case k_law_far => k_is)
    (case a_law_twin => k_is)
    (case l_law_twin => k_is)
    (case c_law_twin => k_is)
    (case k_law_twin => k_is)
    (case a_law_rows => k_is)
    (case l_law_rows => k_is)
    (case c_law_rows => k_is)
    (case k_law_rows => k_is)
    (case a_law_numbers => k_is)
    (case l_law_numbers => k_is)
    (case c_law_numbers => k_is)
    (case k_law_numbers => k_is)
    (case a_law_before => k_is)
    (case l_law_before => k_is)
    (case c_law_before => k_is)
    (case k_law_before => k_is)
    (case a_law_sorted => k_is)
    (case l_law_sorted => k_is)
    (case c_law_sorted => k_is)
    (case k_law_sorted => k_is)
    (case a_law_same => k_is)
    (case l_law_same => k_is)
    (case c_law_same => k_is)
    (case k_law_same => k_is)
    (case a_need => k_is)
    (case l_need => k_is)
    (case c_need => k_is)
    (case k_need => k_is)
    (case a_is_number => k_is)
    (case l_is_number => k_is)
    (case c_is_number => k_is)
    (case k_is_number => k_is)
    (case a_is_hole => k_is)
    (case l_is_hole => k_is)
    (case c_is_hole => k_is)
    (case k_is_hole => k_is)
    (case a_is_word => k_is)
    (case l_is_word => k_is)
    (case c_is_word => k_is)
    (case k_is_word => k_is)
    (case a_is_number_to => k_is)
    (case l_is_number_to => k_is)
    (case c_is_number_to => k_is)
    (case k_is_number_to => k_is)
    (case a_is_symbol => k_is)
    (case l_is_symbol => k_is)
    (case c_is_symbol => k_is)
    (case k_is_symbol => k_is)
    (case a_fault_of => k_is)
    (case l_fault_of => k_is)
    (case c_fault_of => k_is)
    (case k_fault_of => k_is)
    (case a_is_tree => k_is)
    (case l_is_tree => k_is)
    (case c_is_tree => k_is)
    (case k_is_tree => k_is)
    (case a_order_key => k_is)
    (case l_order_key => k_is)
    (case c_order_key => k_is)
    (case k_order_key => k_is)
    (case a_is_ahead => k_is)
    (case l_is_ahead => k_is)
    (case c_is_ahead => k_is)
    (case k_is_ahead => k_is)
    (case a_is_node => k_is)
    (case l_is_node => k_is)
    (case c_is_node => k_is)
    (case k_is_node => k_is)
    (case a_end_of => k_is)
    (case l_end_of => k_is)
    (case c_end_of => k_is)
    (case k_end_of => k_is)
    (case a_with_piece => k_is)
    (case l_with_piece => k_is)
    (case c_with_piece => k_is)
    (case k_with_piece => k_is)
    (case a_law_wholes => k_is)
    (case l_law_wholes => k_is)
    (case c_law_wholes => k_is)
    (case k_law_wholes => k_is)
    (case a_law_asks => k_is)
    (case l_law_asks => k_is)
    (case c_law_asks => k_is)
    (case k_law_asks => k_is)
    (case a_law_refusals => k_is)
    (case l_law_refusals => k_is)
    (case c_law_refusals => k_is)
    (case k_law_refusals => k_is)
    (case a_in_order => k_is)
    (case l_in_order => k_is)
    (case c_in_order => k_is)
    (case k_in_order => k_is)
    (case a_least_of => k_is)
    (case l_least_of => k_is)
    (case c_least_of => k_is)
    (case k_least_of => k_is)
    (case a_law => k_is)
    (case l_law => k_is)
    (case c_law => k_is)
    (case k_law => k_is)
#print axioms PySem.Challenge.cw_stoodthere_k14_whole_order_of_all_trees_holds
