import PyProof.Rows.All
import Wide.All
import OpenK.AllK
import Wide.FinOn
import HandS.ForMost
import HandS.ForExc
import HandS.Evl
import HandS.TupAny
import HandS.IsInst
import HandS.Style
import HandS.ExcInit
import HandS.ExcField
import HandS.ExcIs
import HandS.TryMany
import HandS.CallSlots
import HandS.CallRecv
import PyProof.StrOps2
import PyProof.ListIndexNeg
import PySem.Challenge.RW_stoodthere_k16_whole_texts_of_trees
set_option Elab.async false
set_option linter.all false
set_option maxRecDepth 100000
set_option maxHeartbeats 1000000
/-! data, described apart from the heap; what is mutable stands in a map of its own -/
namespace AL
open PySem L2 Evl
inductive D where
  | non | bl (b : Bool) | int (i : Int) | str (x : Str) | box (a : Addr) | ty (n : String) | tup (ds : List D) | lst (ds : List D) | scr (ns : List Int)
mutual
def Den (K : PySem.W.Frag) (S : Hp) : D → V → Prop
  | .non, v => v = .non
  | .bl b, v => v = .bl b
  | .int i, v => v = .int i
  | .str x, v => v = .str x
  | .box a, v => v = .ref a
  | .ty n, v => v = .ty n
  | .tup ds, v => ∃ a vs, v = .ref a ∧ SqT K S a vs ∧ DenL K S ds vs
  | .lst ds, v => ∃ a vs, v = .ref a ∧ S a = some (.lst vs) ∧ DenL K S ds vs
  | .scr ns, v => ∃ a, v = .ref a ∧ SqL K S a (ns.map V.int)
def DenL (K : PySem.W.Frag) (S : Hp) : List D → List V → Prop
  | [], vs => vs = []
  | d :: ds, vs => ∃ v r, vs = v :: r ∧ Den K S d v ∧ DenL K S ds r
end
section
variable {K : PySem.W.Frag} {S S' : Hp}
mutual
theorem Den.mono (e : Ex S S') : ∀ (d : D) (v : V), Den K S d v → Den K S' d v
  | .non, _, h => h
  | .bl _, _, h => h
  | .int _, _, h => h
  | .str _, _, h => h
  | .box _, _, h => h
  | .ty _, _, h => h
  | .tup ds, _, ⟨a, vs, h1, h2, h3⟩ => ⟨a, vs, h1, ex_t e h2, DenL.mono e ds vs h3⟩
  | .lst ds, _, ⟨a, vs, h1, h2, h3⟩ => ⟨a, vs, h1, e a _ h2, DenL.mono e ds vs h3⟩
  | .scr ns, _, ⟨a, h1, h2⟩ => ⟨a, h1, ex_l e h2⟩
theorem DenL.mono (e : Ex S S') : ∀ (ds : List D) (vs : List V), DenL K S ds vs → DenL K S' ds vs
  | [], _, h => h
  | d :: ds, _, ⟨v, r, h1, h2, h3⟩ => ⟨v, r, h1, Den.mono e d v h2, DenL.mono e ds r h3⟩
end
theorem DenL.len : ∀ {ds : List D} {vs : List V}, DenL K S ds vs → vs.length = ds.length
  | [], _, h => by
    rw [show _ = [] from h]
    rfl
  | d :: ds, _, ⟨v, r, h1, _, h3⟩ => by
    rw [h1, List.length_cons, List.length_cons, DenL.len h3]
theorem DenL.get : ∀ {ds : List D} {vs : List V} {i : Nat} {d : D}, DenL K S ds vs → ds[i]? = some d → ∃ v, vs[i]? = some v ∧ Den K S d v
  | d :: ds, _, 0, _, ⟨v, r, h1, h2, h3⟩, e => by
    subst h1
    rw [List.getElem?_cons_zero] at e
    cases e
    exact ⟨v, rfl, h2⟩
  | d :: ds, _, i + 1, _, ⟨v, r, h1, h2, h3⟩, e => by
    subst h1
    rw [List.getElem?_cons_succ] at e
    obtain ⟨w, hw, hd⟩ := DenL.get h3 e
    exact ⟨w, by rw [List.getElem?_cons_succ]; exact hw, hd⟩
theorem DenL.getV : ∀ {ds : List D} {vs : List V} {i : Nat} {v : V}, DenL K S ds vs → vs[i]? = some v → ∃ d, ds[i]? = some d ∧ Den K S d v
  | [], _, i, v, h, e => by
    rw [show _ = [] from h] at e
    cases e
  | d :: ds, _, 0, _, ⟨v, r, h1, h2, h3⟩, e => by
    subst h1
    rw [List.getElem?_cons_zero] at e
    cases e
    exact ⟨d, rfl, h2⟩
  | d :: ds, _, i + 1, _, ⟨v, r, h1, h2, h3⟩, e => by
    subst h1
    rw [List.getElem?_cons_succ] at e
    obtain ⟨w, hw, hd⟩ := DenL.getV h3 e
    exact ⟨w, by rw [List.getElem?_cons_succ]; exact hw, hd⟩
theorem DenL.app : ∀ {ds es : List D} {vs ws : List V}, DenL K S ds vs → DenL K S es ws → DenL K S (ds ++ es) (vs ++ ws)
  | [], _, _, _, h, g => by
    rw [show _ = [] from h]
    exact g
  | d :: ds, _, _, _, ⟨v, r, h1, h2, h3⟩, g => by
    subst h1
    exact ⟨v, r ++ _, rfl, h2, DenL.app h3 g⟩
theorem DenL.ints : ∀ (ns : List Int), DenL K S (ns.map D.int) (ns.map V.int)
  | [] => rfl
  | n :: ns => ⟨.int n, _, rfl, rfl, DenL.ints ns⟩
theorem DenL.one {d : D} {v : V} (h : Den K S d v) : DenL K S [d] [v] := ⟨v, [], rfl, h, rfl⟩
theorem DenL.take : ∀ {ds : List D} {vs : List V} (n : Nat), DenL K S ds vs → DenL K S (ds.take n) (vs.take n)
  | _, _, 0, h => rfl
  | [], _, n + 1, h => by
    rw [show _ = [] from h]
    rfl
  | d :: ds, _, n + 1, ⟨v, r, h1, h2, h3⟩ => by
    subst h1
    exact ⟨v, r.take n, rfl, h2, DenL.take n h3⟩
theorem DenL.drop : ∀ {ds : List D} {vs : List V} (n : Nat), DenL K S ds vs → DenL K S (ds.drop n) (vs.drop n)
  | _, _, 0, h => h
  | [], _, n + 1, h => by
    rw [show _ = [] from h]
    rfl
  | d :: ds, _, n + 1, ⟨v, r, h1, h2, h3⟩ => by
    subst h1
    exact DenL.drop n h3
theorem DenL.set : ∀ {ds : List D} {vs : List V} (n : Nat) {d : D} {v : V}, DenL K S ds vs → Den K S d v → DenL K S (ds.set n d) (vs.set n v)
  | [], _, n, _, _, h, _ => by
    rw [show _ = [] from h]
    rfl
  | d :: ds, _, 0, _, _, ⟨v, r, h1, h2, h3⟩, g => by
    subst h1
    exact ⟨_, r, rfl, g, h3⟩
  | d :: ds, _, n + 1, _, _, ⟨v, r, h1, h2, h3⟩, g => by
    subst h1
    exact ⟨v, r.set n _, rfl, h2, DenL.set n h3 g⟩
theorem DenL.rev : ∀ {ds : List D} {vs : List V}, DenL K S ds vs → DenL K S ds.reverse vs.reverse
  | [], _, h => by
    rw [show _ = [] from h]
    rfl
  | d :: ds, _, ⟨v, r, h1, h2, h3⟩ => by
    subst h1
    rw [List.reverse_cons, List.reverse_cons]
    exact DenL.app (DenL.rev h3) (DenL.one h2)
theorem DenL.dropLast {ds : List D} {vs : List V} (h : DenL K S ds vs) : DenL K S ds.dropLast vs.dropLast := by
  rw [List.dropLast_eq_take, List.dropLast_eq_take, h.len]
  exact DenL.take _ h
theorem DenL.atI {ds : List D} {vs : List V} {i : Int} {d : D} (h : DenL K S ds vs) (e : L2.atI ds i = some d) : ∃ v, L2.atI vs i = some v ∧ Den K S d v := by
  unfold L2.atI at e ⊢
  rw [h.len]
  cases q : ixN ds.length i with
  | none =>
    rw [q] at e
    cases e
  | some j =>
    rw [q] at e
    exact DenL.get h e
theorem DenL.cut {ds : List D} {vs : List V} {lo hi : Option Int} (h : DenL K S ds vs) : DenL K S ((ds.drop (HT.sIx ds.length 0 lo)).take (HT.sIx ds.length ds.length hi - HT.sIx ds.length 0 lo)) (cutV vs lo hi) := by
  unfold cutV
  rw [h.len]
  exact DenL.take _ (DenL.drop _ h)
end
/-! ### what is mutable -/
inductive MO where
  | lst (ds : List D) | ins (C dx : Addr) (fs : List (Str × D))
abbrev Mu := Addr → Option MO
def mset (m : Mu) (a : Addr) (o : MO) : Mu := fun b => if b = a then some o else m b
def mdel (m : Mu) (a : Addr) : Mu := fun b => if b = a then none else m b
theorem mset_same {m : Mu} {a : Addr} {o : MO} : mset m a o a = some o := if_pos rfl
theorem mset_ne {m : Mu} {a b : Addr} {o : MO} (h : b ≠ a) : mset m a o b = m b := if_neg h
theorem mdel_same {m : Mu} {a : Addr} : mdel m a a = none := if_pos rfl
theorem mdel_ne {m : Mu} {a b : Addr} (h : b ≠ a) : mdel m a b = m b := if_neg h
theorem mset_mset {m : Mu} {a : Addr} {o u : MO} : mset (mset m a o) a u = mset m a u := by
  funext b
  unfold mset
  split <;> rfl
theorem mset_comm {m : Mu} {a b : Addr} {o u : MO} (h : a ≠ b) : mset (mset m a o) b u = mset (mset m b u) a o := by
  funext c
  unfold mset
  by_cases h1 : c = b
  · rw [if_pos h1, if_neg (fun q => h (q.symm.trans h1)), if_pos h1]
  · rw [if_neg h1, if_neg h1]
theorem mdel_mset {m : Mu} {a : Addr} {o : MO} (h : m a = none) : mdel (mset m a o) a = m := by
  funext b
  unfold mdel mset
  by_cases h1 : b = a
  · rw [if_pos h1, h1, h]
  · rw [if_neg h1, if_neg h1]
theorem mdel_mset_ne {m : Mu} {a b : Addr} {o : MO} (h : a ≠ b) : mdel (mset m a o) b = mset (mdel m b) a o := by
  funext c
  by_cases h1 : c = b
  · subst h1
    rw [mdel_same, mset_ne (Ne.symm h), mdel_same]
  · rw [mdel_ne h1]
    by_cases h2 : c = a
    · subst h2
      rw [mset_same, mset_same]
    · rw [mset_ne h2, mset_ne h2, mdel_ne h1]
theorem mset_self {m : Mu} {a : Addr} {o : MO} (h : m a = some o) : mset m a o = m := by
  funext b
  unfold mset
  by_cases h1 : b = a
  · rw [if_pos h1, h1, h]
  · rw [if_neg h1]
/-- the heap without what is mutable -/
def R (m : Mu) (H : Hp) : Hp := fun a => match m a with
  | none => H a
  | some _ => none
theorem R_none {m : Mu} {H : Hp} {a : Addr} (h : m a = none) : R m H a = H a := by
  unfold R
  rw [h]
theorem R_of {m : Mu} {H : Hp} {a : Addr} {o : HO} (h : R m H a = some o) : m a = none ∧ H a = some o := by
  unfold R at h
  split at h
  · exact ⟨by assumption, h⟩
  · cases h
def DenF (K : PySem.W.Frag) (S : Hp) : List (Str × D) → List (Str × V) → Prop
  | [], gs => gs = []
  | f :: fs, gs => ∃ v r, gs = (f.1, v) :: r ∧ Den K S f.2 v ∧ DenF K S fs r
theorem DenF.mono {K : PySem.W.Frag} {S S' : Hp} (e : Ex S S') : ∀ (fs : List (Str × D)) (gs : List (Str × V)), DenF K S fs gs → DenF K S' fs gs
  | [], _, h => h
  | f :: fs, _, ⟨v, r, h1, h2, h3⟩ => ⟨v, r, h1, Den.mono e f.2 v h2, DenF.mono e fs r h3⟩
theorem DenF.look {K : PySem.W.Frag} {S : Hp} : ∀ {fs : List (Str × D)} {gs : List (Str × V)} {f : Str} {d : D}, DenF K S fs gs → fs.lookup f = some d → ∃ v, gs.lookup f = some v ∧ Den K S d v
  | (n, e) :: fs, _, f, d, ⟨v, r, h1, h2, h3⟩, q => by
    subst h1
    rw [List.lookup_cons] at q
    rw [List.lookup_cons]
    cases z : f == n with
    | true =>
      rw [z] at q
      cases q
      exact ⟨v, rfl, h2⟩
    | false =>
      rw [z] at q
      exact DenF.look h3 q
theorem DenF.lookN {K : PySem.W.Frag} {S : Hp} : ∀ {fs : List (Str × D)} {gs : List (Str × V)} {f : Str}, DenF K S fs gs → fs.lookup f = none → gs.lookup f = none
  | [], _, f, h, q => by
    rw [show _ = [] from h]
    rfl
  | (n, e) :: fs, _, f, ⟨v, r, h1, h2, h3⟩, q => by
    subst h1
    rw [List.lookup_cons] at q
    rw [List.lookup_cons]
    cases z : f == n with
    | true =>
      rw [z] at q
      cases q
    | false =>
      rw [z] at q
      exact DenF.lookN h3 q
theorem DenF.len {K : PySem.W.Frag} {S : Hp} : ∀ {fs : List (Str × D)} {gs : List (Str × V)}, DenF K S fs gs → gs.length = fs.length
  | [], _, h => by
    rw [show _ = [] from h]
    rfl
  | f :: fs, _, ⟨v, r, h1, _, h3⟩ => by
    rw [h1, List.length_cons, List.length_cons, DenF.len h3]
def putD (f : Str) (d : D) : List (Str × D) → List (Str × D)
  | [] => [(f, d)]
  | (n, e) :: r => if n = f then (n, d) :: r else (n, e) :: putD f d r
theorem DenF.put {K : PySem.W.Frag} {S : Hp} {f : Str} {d : D} {v : V} (g : Den K S d v) : ∀ {fs : List (Str × D)} {gs : List (Str × V)}, DenF K S fs gs → DenF K S (putD f d fs) (putF f v gs)
  | [], _, h => by
    rw [show _ = [] from h]
    exact ⟨v, [], rfl, g, rfl⟩
  | (n, e) :: fs, _, ⟨w, r, h1, h2, h3⟩ => by
    subst h1
    show DenF K S (if n = f then (n, d) :: fs else (n, e) :: putD f d fs) (if n = f then (n, v) :: r else (n, w) :: putF f v r)
    by_cases z : n = f
    · rw [if_pos z, if_pos z]
      exact ⟨v, r, rfl, g, h3⟩
    · rw [if_neg z, if_neg z]
      exact ⟨w, _, rfl, h2, DenF.put g h3⟩
def MOk (K : PySem.W.Frag) (S H : Hp) (a : Addr) : MO → Prop
  | .lst ds => ∃ vs, H a = some (.lst vs) ∧ DenL K S ds vs
  | .ins C dx fs => ∃ gs, H a = some (.ins C dx gs) ∧ DenF K S fs gs
def Rep (K : PySem.W.Frag) (H : Hp) (m : Mu) : Prop := ∀ a o, m a = some o → MOk K (R m H) H a o
def Po (K : PySem.W.Frag) (m : Mu) (H : Hp) (m' : Mu) (H' : Hp) : Prop := Rep K H' m' ∧ Ex (R m H) (R m' H')
theorem Po.refl {K : PySem.W.Frag} {m : Mu} {H : Hp} (h : Rep K H m) : Po K m H m H := ⟨h, Ex.refl _⟩
theorem Po.trans {K : PySem.W.Frag} {m m1 m2 : Mu} {H H1 H2 : Hp} (a : Po K m H m1 H1) (b : Po K m1 H1 m2 H2) : Po K m H m2 H2 := ⟨b.1, a.2.trans b.2⟩
theorem MOk.mono {K : PySem.W.Frag} {S S' H H' : Hp} {a : Addr} {o : MO} (e : Ex S S') (h : H' a = H a) : MOk K S H a o → MOk K S' H' a o := by
  cases o with
  | lst ds =>
    rintro ⟨vs, h1, h2⟩
    exact ⟨vs, h.trans h1, DenL.mono e _ _ h2⟩
  | ins C dx fs =>
    rintro ⟨gs, h1, h2⟩
    exact ⟨gs, h.trans h1, DenF.mono e _ _ h2⟩
/-- a new object that is not to change -/
theorem Po.new {K : PySem.W.Frag} {m : Mu} {H : Hp} {p : Addr} {o : HO} (h : Rep K H m) (hp : H p = none) : Po K m H m (upd H p o) ∧ R m (upd H p o) p = some o := by
  have mp : m p = none := by
    cases q : m p with
    | none => rfl
    | some u =>
      have z := h p u q
      cases u with
      | lst ds =>
        obtain ⟨vs, h1, _⟩ := z
        rw [hp] at h1
        cases h1
      | ins C dx fs =>
        obtain ⟨vs, h1, _⟩ := z
        rw [hp] at h1
        cases h1
  have e : Ex (R m H) (R m (upd H p o)) := fun a u ha => by
    obtain ⟨h1, h2⟩ := R_of ha
    rw [R_none h1, upd_ne (ne_of_none h2 hp)]
    exact h2
  refine ⟨⟨fun a u ha => ?_, e⟩, by rw [R_none mp, upd_same]⟩
  refine MOk.mono e (upd_ne fun z => ?_) (h a u ha)
  rw [z, mp] at ha
  cases ha
theorem Rep.fresh {K : PySem.W.Frag} {m : Mu} {H : Hp} {p : Addr} (h : Rep K H m) (hp : H p = none) : m p = none := by
  cases q : m p with
  | none => rfl
  | some u =>
    have z := h p u q
    cases u with
    | lst ds =>
      obtain ⟨vs, h1, _⟩ := z
      rw [hp] at h1
      cases h1
    | ins C dx fs =>
      obtain ⟨vs, h1, _⟩ := z
      rw [hp] at h1
      cases h1
/-- a new list that is to change -/
theorem Po.newL {K : PySem.W.Frag} {m : Mu} {H : Hp} {p : Addr} {ds : List D} {vs : List V} (h : Rep K H m) (hp : H p = none) (d : DenL K (R m H) ds vs) : Po K m H (mset m p (.lst ds)) (upd H p (.lst vs)) := by
  have mp := h.fresh hp
  have e : Ex (R m H) (R (mset m p (.lst ds)) (upd H p (.lst vs))) := fun a u ha => by
    obtain ⟨h1, h2⟩ := R_of ha
    have n := ne_of_none h2 hp
    rw [R_none (by rw [mset_ne n]; exact h1), upd_ne n]
    exact h2
  refine ⟨fun a u ha => ?_, e⟩
  by_cases z : a = p
  · subst z
    rw [mset_same] at ha
    cases ha
    exact ⟨vs, upd_same, DenL.mono e _ _ d⟩
  · rw [mset_ne z] at ha
    exact MOk.mono e (upd_ne z) (h a u ha)
/-- a mutable list is changed -/
theorem Po.setL {K : PySem.W.Frag} {m : Mu} {H : Hp} {p : Addr} {o : MO} {ds : List D} {vs : List V} (h : Rep K H m) (hp : m p = some o) (d : DenL K (R m H) ds vs) : Po K m H (mset m p (.lst ds)) (upd H p (.lst vs)) := by
  have e : Ex (R m H) (R (mset m p (.lst ds)) (upd H p (.lst vs))) := fun a u ha => by
    obtain ⟨h1, h2⟩ := R_of ha
    have n : a ≠ p := fun z => by
      rw [z, hp] at h1
      cases h1
    rw [R_none (by rw [mset_ne n]; exact h1), upd_ne n]
    exact h2
  refine ⟨fun a u ha => ?_, e⟩
  by_cases z : a = p
  · subst z
    rw [mset_same] at ha
    cases ha
    exact ⟨vs, upd_same, DenL.mono e _ _ d⟩
  · rw [mset_ne z] at ha
    exact MOk.mono e (upd_ne z) (h a u ha)
theorem Po.setI {K : PySem.W.Frag} {m : Mu} {H : Hp} {p C dx : Addr} {o : MO} {fs : List (Str × D)} {gs : List (Str × V)} (h : Rep K H m) (hp : m p = some o) (d : DenF K (R m H) fs gs) : Po K m H (mset m p (.ins C dx fs)) (upd H p (.ins C dx gs)) := by
  have e : Ex (R m H) (R (mset m p (.ins C dx fs)) (upd H p (.ins C dx gs))) := fun a u ha => by
    obtain ⟨h1, h2⟩ := R_of ha
    have n : a ≠ p := fun z => by
      rw [z, hp] at h1
      cases h1
    rw [R_none (by rw [mset_ne n]; exact h1), upd_ne n]
    exact h2
  refine ⟨fun a u ha => ?_, e⟩
  by_cases z : a = p
  · subst z
    rw [mset_same] at ha
    cases ha
    exact ⟨gs, upd_same, DenF.mono e _ _ d⟩
  · rw [mset_ne z] at ha
    exact MOk.mono e (upd_ne z) (h a u ha)
/-- what is mutable no more -/
theorem Po.del {K : PySem.W.Frag} {m : Mu} {H : Hp} {p : Addr} (h : Rep K H m) : Po K m H (mdel m p) H := by
  have e : Ex (R m H) (R (mdel m p) H) := fun a u ha => by
    obtain ⟨h1, h2⟩ := R_of ha
    have z : mdel m p a = none := by
      unfold mdel
      split
      · rfl
      · exact h1
    rw [R_none z]
    exact h2
  refine ⟨fun a u ha => ?_, e⟩
  have z : a ≠ p := fun z => by
    rw [z, mdel_same] at ha
    cases ha
  rw [mdel_ne z] at ha
  exact MOk.mono e rfl (h a u ha)
/-- .. it is data then -/
theorem den_frozen {K : PySem.W.Frag} {m : Mu} {H : Hp} {p : Addr} {ds : List D} (h : Rep K H m) (hp : m p = some (.lst ds)) : Den K (R (mdel m p) H) (.lst ds) (.ref p) := by
  obtain ⟨vs, h1, h2⟩ := h p _ hp
  exact ⟨p, vs, rfl, by rw [R_none mdel_same]; exact h1, DenL.mono (Po.del h).2 _ _ h2⟩
/-! ### the slots -/
abbrev Sl := List (Option D)
def nth : Sl → Nat → Option D
  | [], _ => none
  | x :: _, 0 => x
  | _ :: r, n + 1 => nth r n
def put : Sl → Nat → Option D → Sl
  | [], _, _ => []
  | _ :: r, 0, d => d :: r
  | x :: r, n + 1, d => x :: put r n d
def Env (K : PySem.W.Frag) (S : Hp) : Sl → St → Prop
  | [], st => st = []
  | x :: r, st => ∃ v u, st = v :: u ∧ (∀ d, x = some d → ∃ w, v = some w ∧ Den K S d w) ∧ Env K S r u
theorem Env.mono {K : PySem.W.Frag} {S S' : Hp} (e : Ex S S') : ∀ {g : Sl} {st : St}, Env K S g st → Env K S' g st
  | [], _, h => h
  | x :: r, _, ⟨v, u, h1, h2, h3⟩ => ⟨v, u, h1, fun d q => let ⟨w, a, b⟩ := h2 d q; ⟨w, a, Den.mono e d w b⟩, Env.mono e h3⟩
theorem Env.nth {K : PySem.W.Frag} {S : Hp} : ∀ {g : Sl} {st : St} {i : Nat} {d : D}, Env K S g st → nth g i = some d → ∃ v, st[i]? = some (some v) ∧ Den K S d v
  | x :: r, _, 0, d, ⟨v, u, h1, h2, h3⟩, q => by
    subst h1
    obtain ⟨w, a, b⟩ := h2 d q
    exact ⟨w, by rw [List.getElem?_cons_zero, a], b⟩
  | x :: r, _, i + 1, d, ⟨v, u, h1, h2, h3⟩, q => by
    subst h1
    obtain ⟨w, a, b⟩ := Env.nth h3 q
    exact ⟨w, by rw [List.getElem?_cons_succ]; exact a, b⟩
theorem Env.put {K : PySem.W.Frag} {S : Hp} : ∀ {g : Sl} {st : St} {i : Nat} {d : D} {v : V}, Env K S g st → Den K S d v → Env K S (AL.put g i (some d)) (st.set i (some v))
  | [], _, i, _, _, h, _ => by
    rw [show _ = [] from h]
    rfl
  | x :: r, _, 0, d, w, ⟨v, u, h1, h2, h3⟩, q => by
    subst h1
    exact ⟨some w, u, rfl, fun e z => ⟨w, rfl, by cases z; exact q⟩, h3⟩
  | x :: r, _, i + 1, d, w, ⟨v, u, h1, h2, h3⟩, q => by
    subst h1
    exact ⟨v, _, rfl, h2, Env.put h3 q⟩
theorem Env.gone {K : PySem.W.Frag} {S : Hp} : ∀ {g : Sl} {st : St} {i : Nat} {v : Option V}, Env K S g st → Env K S (AL.put g i Option.none) (st.set i v)
  | [], _, i, _, h => by
    rw [show _ = [] from h]
    rfl
  | x :: r, _, 0, w, ⟨v, u, h1, h2, h3⟩ => by
    subst h1
    exact ⟨w, u, rfl, fun e z => (by cases z), h3⟩
  | x :: r, _, i + 1, w, ⟨v, u, h1, h2, h3⟩ => by
    subst h1
    exact ⟨v, _, rfl, h2, Env.gone h3⟩
theorem Env.len {K : PySem.W.Frag} {S : Hp} : ∀ {g : Sl} {st : St}, Env K S g st → st.length = g.length
  | [], _, h => by
    rw [show _ = [] from h]
    rfl
  | x :: r, _, ⟨v, u, h1, _, h3⟩ => by
    rw [h1, List.length_cons, List.length_cons, Env.len h3]
theorem Env.non {K : PySem.W.Frag} {S : Hp} : ∀ (n : Nat), Env K S (List.replicate n Option.none) (List.replicate n Option.none)
  | 0 => rfl
  | n + 1 => ⟨Option.none, _, List.replicate_succ, fun d q => (by cases q), Env.non n⟩
theorem Env.start {K : PySem.W.Frag} {S : Hp} : ∀ {ds : List D} {vs : List V} (n : Nat), DenL K S ds vs → Env K S (ds.map some ++ List.replicate n Option.none) (vs.map some ++ List.replicate n Option.none)
  | [], _, n, h => by
    rw [show _ = [] from h]
    exact Env.non n
  | d :: ds, _, n, ⟨v, r, h1, h2, h3⟩ => by
    subst h1
    exact ⟨some v, _, rfl, fun e q => ⟨v, rfl, by cases q; exact h2⟩, Env.start n h3⟩
end AL
set_option maxHeartbeats 1000000
namespace AL
open PySem L2 Evl
abbrev PD := D → Mu → Prop
abbrev Ab := Sl → Mu → PD → Prop
abbrev AbT := Sl → Mu → (Bool → Mu → Prop) → Prop
abbrev AbA := Sl → Mu → (List D → Mu → Prop) → Prop
def WX (K : PySem.W.Frag) (S0 : Hp) (te : TE) (g : Sl) (m : Mu) (P : PD) : Prop :=
  ∀ st H, Rep K H m → Ex S0 (R m H) → Env K (R m H) g st → ∀ Q : VK, (∀ v H' d m', P d m' → Po K m H m' H' → Den K (R m' H') d v → Q v H') → te st H Q
def WT (K : PySem.W.Frag) (S0 : Hp) (te : TT) (g : Sl) (m : Mu) (P : Bool → Mu → Prop) : Prop :=
  ∀ st H, Rep K H m → Ex S0 (R m H) → Env K (R m H) g st → ∀ Q : Bool → Hp → Prop, (∀ b H' m', P b m' → Po K m H m' H' → Q b H') → te st H Q
def WA (K : PySem.W.Frag) (S0 : Hp) (te : TA) (g : Sl) (m : Mu) (P : List D → Mu → Prop) : Prop :=
  ∀ st H, Rep K H m → Ex S0 (R m H) → Env K (R m H) g st → ∀ Q : List V → Hp → Prop, (∀ vs H' ds m', P ds m' → Po K m H m' H' → DenL K (R m' H') ds vs → Q vs H') → te st H Q
structure AE (X : Cx) (S0 : Hp) (e : Expr) (a : Ab) : Prop where
  ex : ∃ t, PE X e t ∧ ∀ g m P, a g m P → WX X.K S0 t g m P
structure AT (X : Cx) (S0 : Hp) (e : Expr) (a : AbT) : Prop where
  ex : ∃ t, PT X e t ∧ ∀ g m P, a g m P → WT X.K S0 t g m P
structure AW (X : Cx) (S0 : Hp) (e : Expr) (a : AbT) : Prop where
  ex : ∃ t, PW X e t ∧ ∀ g m P, a g m P → WT X.K S0 t g m P
structure AA (X : Cx) (S0 : Hp) (es : List Expr) (a : AbA) : Prop where
  ex : ∃ t, PA X es t ∧ ∀ g m P, a g m P → WA X.K S0 t g m P
section
variable {X : Cx} {S0 : Hp} {a b c e : Expr} {es : List Expr} {fa fb fc : Ab} {ft fu : AbT} {fs : AbA} {pos : Pos}
/-! ### names, constants -/
def aVar (i : Nat) : Ab := fun g m P => match nth g i with
  | some d => P d m
  | none => False
theorem ae_var {x : Str} (i : Nat) (hN : X.N[i]? = some x := by rfl) (hv : Vis X.env.scope x := by first | exact Or.inl rfl | exact Or.inr (Or.inl rfl) | exact Or.inr (Or.inr rfl)) (hd : (x == ("__debug__" : Str)) = false := by decide)
    (hcd : (x == ("__classdict__" : Str)) = false := by decide) : AE X S0 (.Name x pos) (aVar i) :=
  ⟨_, pe_var hN hv hd hcd, fun g m P h st H r e0 en Q q => by
    unfold aVar at h
    split at h
    · rename_i d hd
      obtain ⟨v, h1, h2⟩ := en.nth hd
      exact ⟨v, h1, q v H d m h (Po.refl r) h2⟩
    · exact h.elim⟩
def aC (d : D) : Ab := fun _ m P => P d m
theorem ae_const {v : V} (d : D) (h : PE X e (tC v)) (hd : ∀ S, Den X.K S d v) : AE X S0 e (aC d) :=
  ⟨_, h, fun g m P h st H r e0 en Q q => q v H d m h (Po.refl r) (hd _)⟩
/-! ### operators -/
def OpA (K : PySem.W.Frag) (r : R2) (f : D → D → Mu → PD → Prop) : Prop :=
  ∀ x y m P, f x y m P → ∀ v w H, Rep K H m → Den K (R m H) x v → Den K (R m H) y w → ∀ Q : VK, (∀ z H' d m', P d m' → Po K m H m' H' → Den K (R m' H') d z → Q z H') → r v w H Q
def aOp (f : D → D → Mu → PD → Prop) (fa fb : Ab) : Ab := fun g m P => fa g m fun x m1 => fb g m1 fun y m2 => f x y m2 P
theorem aop_sound {K : PySem.W.Frag} {S0 : Hp} {r : R2} {f : D → D → Mu → PD → Prop} {ta tb : TE} {fa fb : Ab} (hr : OpA K r f) (ha : ∀ g m P, fa g m P → WX K S0 ta g m P) (hb : ∀ g m P, fb g m P → WX K S0 tb g m P) :
    ∀ g m P, aOp f fa fb g m P → WX K S0 (tOp r ta tb) g m P := fun g m P h st H rp e0 en Q q =>
  ha g m _ h st H rp e0 en _ fun v H1 x m1 h1 p1 d1 =>
    hb g m1 _ h1 st H1 p1.1 (e0.trans p1.2) (en.mono p1.2) _ fun w H2 y m2 h2 p2 d2 =>
      hr x y m2 P h2 v w H2 p2.1 (Den.mono p2.2 _ _ d1) d2 Q fun z H3 d m3 h3 p3 d3 => q z H3 d m3 h3 (p1.trans (p2.trans p3)) d3
theorem ae_op {op : Operator} {r : R2} {f : D → D → Mu → PD → Prop} (ho : OpR X (binaryOp op) r) (hr : OpA X.K r f) (ha : AE X S0 a fa) (hb : AE X S0 b fb) : AE X S0 (.BinOp a op b pos) (aOp f fa fb) := by
  obtain ⟨ta, pa, sa⟩ := ha.ex
  obtain ⟨tb, pb, sb⟩ := hb.ex
  exact ⟨_, pe_op ho pa pb, aop_sound hr sa sb⟩
theorem ae_cmp {op : CmpOp} {r : R2} {f : D → D → Mu → PD → Prop} (ho : OpR X (compareOp op) r) (hr : OpA X.K r f) (hm : behindInMarks op b = false) (ha : AE X S0 a fa) (hb : AE X S0 b fb) : AE X S0 (.Compare a [op] [b] pos) (aOp f fa fb) := by
  obtain ⟨ta, pa, sa⟩ := ha.ex
  obtain ⟨tb, pb, sb⟩ := hb.ex
  exact ⟨_, pe_cmpR ho pa pb hm, aop_sound hr sa sb⟩
def asT (P : Bool → Mu → Prop) : PD := fun d m => match d with
  | .bl b => P b m
  | _ => False
/-- a value that is a bool, as a test -/
def aTest (f : Ab) : AbT := fun g m P => f g m (asT P)
theorem den_bl {K : PySem.W.Frag} {S : Hp} {d : D} {v : V} {P : Bool → Mu → Prop} {m : Mu} (h : asT P d m) (g : Den K S d v) : ∃ b, v = .bl b ∧ P b m := by
  cases d with
  | bl b => exact ⟨b, g, h⟩
  | _ => exact (show False from h).elim
theorem at_cmp {op : CmpOp} {r : R2} {f : D → D → Mu → PD → Prop} (ho : OpR X (compareOp op) r) (hr : OpA X.K r f) (hm : behindInMarks op b = false) (ha : AE X S0 a fa) (hb : AE X S0 b fb) : AT X S0 (.Compare a [op] [b] pos) (aTest (aOp f fa fb)) := by
  obtain ⟨ta, pa, sa⟩ := ha.ex
  obtain ⟨tb, pb, sb⟩ := hb.ex
  refine ⟨_, pt_cmpR ho pa pb hm, fun g m P h st H rp e0 en Q q => ?_⟩
  exact aop_sound hr sa sb g m _ h st H rp e0 en _ fun v H' d m' h1 p1 d1 => by
    obtain ⟨k, rfl, hk⟩ := den_bl h1 d1
    exact ⟨k, rfl, q k H' m' hk p1⟩
theorem at_val (ha : AE X S0 a fa) (hs : ∀ w, isTrue a X.env w = (do let v ← w; standAt a.pos; holding [v] (truthy v)) := by intro _; rfl) : AT X S0 a (aTest fa) := by
  obtain ⟨ta, pa, sa⟩ := ha.ex
  refine ⟨_, pt_truth pa hs, fun g m P h st H rp e0 en Q q => ?_⟩
  exact sa g m _ h st H rp e0 en _ fun v H' d m' h1 p1 d1 => by
    obtain ⟨k, rfl, hk⟩ := den_bl h1 d1
    exact ⟨k, rfl, q k H' m' hk p1⟩
/-- what data reads as a row -/
def seqOf (m : Mu) : D → Option (List D)
  | .tup ds => some ds
  | .lst ds => some ds
  | .scr ns => some (ns.map D.int)
  | .box a => match m a with
    | some (.lst ds) => some ds
    | _ => none
  | _ => none
theorem seq_den {K : PySem.W.Frag} {m : Mu} {H : Hp} {d : D} {v : V} {ds : List D} (r : Rep K H m) (h : Den K (R m H) d v) (e : seqOf m d = some ds) :
    ∃ p vs, v = .ref p ∧ (SqL K H p vs ∨ SqT K H p vs) ∧ DenL K (R m H) ds vs := by
  have up : Ex (R m H) H := fun a o q => (R_of q).2
  cases d with
  | tup es =>
    cases e
    obtain ⟨a, vs, h1, h2, h3⟩ := h
    exact ⟨a, vs, h1, .inr (ex_t up h2), h3⟩
  | lst es =>
    cases e
    obtain ⟨a, vs, h1, h2, h3⟩ := h
    exact ⟨a, vs, h1, .inl (sq_of (R_of h2).2), h3⟩
  | box a =>
    have e' : (match m a with
      | some (.lst ds) => some ds
      | _ => none) = some ds := e
    cases hm : m a with
    | none =>
      rw [hm] at e'
      cases e'
    | some o =>
      rw [hm] at e'
      cases o with
      | lst es =>
        cases e'
        obtain ⟨vs, h1, h2⟩ := r a _ hm
        exact ⟨a, vs, h, .inl (sq_of h1), h2⟩
      | ins C dx fs => cases e'
  | scr ns =>
    cases e
    obtain ⟨a, h1, h2⟩ := h
    exact ⟨a, _, h1, .inl (ex_l up h2), DenL.ints ns⟩
  | _ => cases e
/-- truth -/
def truD (m : Mu) : D → Option Bool
  | .non => some false
  | .bl b => some b
  | .int i => some (i != 0)
  | d => (seqOf m d).map fun ds => !ds.isEmpty
def aTru (f : Ab) : AbT := fun g m P => f g m fun d m1 => match truD m1 d with
  | some b => P b m1
  | none => False
theorem tru_den {K : PySem.W.Frag} {m : Mu} {H : Hp} {d : D} {v : V} {b : Bool} (r : Rep K H m) (h : Den K (R m H) d v) (e : truD m d = some b) : TruV K v H b := by
  have go : ∀ ds, seqOf m d = some ds → TruV K v H (!ds.isEmpty) := fun ds q => by
    obtain ⟨p, vs, rfl, hs, hd⟩ := seq_den r h q
    have hl := hd.len
    have hz : vs.isEmpty = ds.isEmpty := by
      cases vs <;> cases ds <;> first | rfl | cases hl
    rcases hs with z | z
    · exact .inl ⟨vs, z, by rw [hz]⟩
    · exact .inr (.inl ⟨vs, z, by rw [hz]⟩)
  cases d with
  | non =>
    cases h
    cases e
    rfl
  | bl k =>
    cases h
    cases e
    rfl
  | int i =>
    cases h
    cases e
    rfl
  | str x => cases e
  | ty n => cases e
  | tup ds =>
    cases e
    exact go ds rfl
  | lst ds =>
    cases e
    exact go ds rfl
  | scr ns =>
    cases e
    exact go _ rfl
  | box a =>
    have e : (seqOf m (.box a)).map (fun ds => !ds.isEmpty) = some b := e
    cases q : seqOf m (.box a) with
    | none =>
      rw [q] at e
      cases e
    | some ds =>
      rw [q] at e
      cases e
      exact go ds q
theorem at_tru (ha : AE X S0 a fa) (hs : ∀ w, isTrue a X.env w = (do let v ← w; standAt a.pos; holding [v] (truthy v)) := by intro _; rfl) : AT X S0 a (aTru fa) := by
  obtain ⟨ta, pa, sa⟩ := ha.ex
  refine ⟨_, pt_truth pa hs, fun g m P h st H rp e0 en Q q => ?_⟩
  exact sa g m _ h st H rp e0 en _ fun v H' d m' h1 p1 d1 => by
    cases z : truD m' d with
    | none =>
      rw [z] at h1
      exact h1.elim
    | some k =>
      rw [z] at h1
      exact ⟨k, tru_den p1.1 d1 z, q k H' m' h1 p1⟩
/-! ### and, or, not -/
def aAnd (t u : AbT) : AbT := fun g m P => t g m fun b m1 => if b = true then u g m1 P else P false m1
def aOr (t u : AbT) : AbT := fun g m P => t g m fun b m1 => if b = true then P true m1 else u g m1 P
def aNot (t : AbT) : AbT := fun g m P => t g m fun b m1 => P (!b) m1
theorem and_sound {K : PySem.W.Frag} {S0 : Hp} {t u : TT} (h1 : ∀ g m P, ft g m P → WT K S0 t g m P) (h2 : ∀ g m P, fu g m P → WT K S0 u g m P) : ∀ g m P, aAnd ft fu g m P → WT K S0 (tAnd t u) g m P :=
  fun g m P h st H rp e0 en Q q => h1 g m _ h st H rp e0 en _ fun b H1 m1 hb p1 => by
    cases b with
    | true =>
      rw [if_pos rfl] at hb ⊢
      exact h2 g m1 P hb st H1 p1.1 (e0.trans p1.2) (en.mono p1.2) Q fun k H2 m2 hk p2 => q k H2 m2 hk (p1.trans p2)
    | false =>
      rw [if_neg (by decide)] at hb ⊢
      exact q false H1 m1 hb p1
theorem or_sound {K : PySem.W.Frag} {S0 : Hp} {t u : TT} (h1 : ∀ g m P, ft g m P → WT K S0 t g m P) (h2 : ∀ g m P, fu g m P → WT K S0 u g m P) : ∀ g m P, aOr ft fu g m P → WT K S0 (tOr t u) g m P :=
  fun g m P h st H rp e0 en Q q => h1 g m _ h st H rp e0 en _ fun b H1 m1 hb p1 => by
    cases b with
    | true =>
      rw [if_pos rfl] at hb ⊢
      exact q true H1 m1 hb p1
    | false =>
      rw [if_neg (by decide)] at hb ⊢
      exact h2 g m1 P hb st H1 p1.1 (e0.trans p1.2) (en.mono p1.2) Q fun k H2 m2 hk p2 => q k H2 m2 hk (p1.trans p2)
theorem at_not {p : Pos} (ha : AT X S0 a ft) : AT X S0 (.UnaryOp .Not a p) (aNot ft) := by
  obtain ⟨ta, pa, sa⟩ := ha.ex
  exact ⟨_, pt_not pa, fun g m P h st H rp e0 en Q q => sa g m _ h st H rp e0 en _ fun b H1 m1 hb p1 => q (!b) H1 m1 hb p1⟩
def aAndV (fa fb : Ab) : Ab := fun g m P => fa g m (asT fun b m1 => if b = true then fb g m1 P else P (.bl false) m1)
def aOrV (fa fb : Ab) : Ab := fun g m P => fa g m (asT fun b m1 => if b = true then P (.bl true) m1 else fb g m1 P)
def aNotV (fa : Ab) : Ab := fun g m P => fa g m (asT fun b m1 => P (.bl (!b)) m1)
def aIfE (ft : AbT) (fa fb : Ab) : Ab := fun g m P => ft g m fun b m1 => if b = true then fa g m1 P else fb g m1 P
theorem ae_one {op : BoolOp} {p : Pos} (h : AE X S0 a fa) : AE X S0 (.BoolOp op [a] p) fa := by
  obtain ⟨ta, pa, sa⟩ := h.ex
  exact ⟨ta, pe_one pa, sa⟩
theorem ae_and {rest : List Expr} {p : Pos} (ha : AE X S0 a fa) (hb : AE X S0 (.BoolOp .And (b :: rest) p) fb) : AE X S0 (.BoolOp .And (a :: b :: rest) p) (aAndV fa fb) := by
  obtain ⟨ta, pa, sa⟩ := ha.ex
  obtain ⟨tb, pb, sb⟩ := hb.ex
  refine ⟨_, pe_and pa pb, fun g m P h st H rp e0 en Q q => sa g m _ h st H rp e0 en _ fun v H1 d m1 h1 p1 d1 => ?_⟩
  obtain ⟨k, rfl, hk⟩ := den_bl h1 d1
  refine ⟨k, rfl, ?_⟩
  cases k with
  | true =>
    rw [if_pos rfl] at hk ⊢
    exact sb g m1 P hk st H1 p1.1 (e0.trans p1.2) (en.mono p1.2) Q fun w H2 d2 m2 h2 p2 e2 => q w H2 d2 m2 h2 (p1.trans p2) e2
  | false =>
    rw [if_neg (by decide)] at hk ⊢
    exact q _ H1 _ m1 hk p1 rfl
theorem ae_or {rest : List Expr} {p : Pos} (ha : AE X S0 a fa) (hb : AE X S0 (.BoolOp .Or (b :: rest) p) fb) : AE X S0 (.BoolOp .Or (a :: b :: rest) p) (aOrV fa fb) := by
  obtain ⟨ta, pa, sa⟩ := ha.ex
  obtain ⟨tb, pb, sb⟩ := hb.ex
  refine ⟨_, pe_or pa pb, fun g m P h st H rp e0 en Q q => sa g m _ h st H rp e0 en _ fun v H1 d m1 h1 p1 d1 => ?_⟩
  obtain ⟨k, rfl, hk⟩ := den_bl h1 d1
  refine ⟨k, rfl, ?_⟩
  cases k with
  | true =>
    rw [if_pos rfl] at hk ⊢
    exact q _ H1 _ m1 hk p1 rfl
  | false =>
    rw [if_neg (by decide)] at hk ⊢
    exact sb g m1 P hk st H1 p1.1 (e0.trans p1.2) (en.mono p1.2) Q fun w H2 d2 m2 h2 p2 e2 => q w H2 d2 m2 h2 (p1.trans p2) e2
theorem ae_not {p : Pos} (ha : AE X S0 a fa) : AE X S0 (.UnaryOp .Not a p) (aNotV fa) := by
  obtain ⟨ta, pa, sa⟩ := ha.ex
  refine ⟨_, pe_not pa, fun g m P h st H rp e0 en Q q => sa g m _ h st H rp e0 en _ fun v H1 d m1 h1 p1 d1 => ?_⟩
  obtain ⟨k, rfl, hk⟩ := den_bl h1 d1
  exact ⟨k, rfl, q _ H1 _ m1 hk p1 rfl⟩
theorem ae_if {p : Pos} (ht : AT X S0 c ft) (ha : AE X S0 a fa) (hb : AE X S0 b fb) : AE X S0 (.IfExp c a b p) (aIfE ft fa fb) := by
  obtain ⟨tc, pc, sc⟩ := ht.ex
  obtain ⟨ta, pa, sa⟩ := ha.ex
  obtain ⟨tb, pb, sb⟩ := hb.ex
  refine ⟨_, pe_ifExp pc pa pb, fun g m P h st H rp e0 en Q q => sc g m _ h st H rp e0 en _ fun k H1 m1 hk p1 => ?_⟩
  cases k with
  | true =>
    rw [if_pos rfl] at hk ⊢
    exact sa g m1 P hk st H1 p1.1 (e0.trans p1.2) (en.mono p1.2) Q fun w H2 d2 m2 h2 p2 e2 => q w H2 d2 m2 h2 (p1.trans p2) e2
  | false =>
    rw [if_neg (by decide)] at hk ⊢
    exact sb g m1 P hk st H1 p1.1 (e0.trans p1.2) (en.mono p1.2) Q fun w H2 d2 m2 h2 p2 e2 => q w H2 d2 m2 h2 (p1.trans p2) e2
theorem at_and1 {p : Pos} (h : AT X S0 a ft) : AW X S0 (.BoolOp .And [a] p) ft := by
  obtain ⟨ta, pa, sa⟩ := h.ex
  exact ⟨ta, pw_and1 pa, sa⟩
theorem at_or1 {p : Pos} (h : AT X S0 a ft) : AW X S0 (.BoolOp .Or [a] p) ft := by
  obtain ⟨ta, pa, sa⟩ := h.ex
  exact ⟨ta, pw_or1 pa, sa⟩
theorem aw_and {rest : List Expr} {p : Pos} (ha : AT X S0 a ft) (hb : AW X S0 (.BoolOp .And (b :: rest) p) fu) : AW X S0 (.BoolOp .And (a :: b :: rest) p) (aAnd ft fu) := by
  obtain ⟨ta, pa, sa⟩ := ha.ex
  obtain ⟨tb, pb, sb⟩ := hb.ex
  exact ⟨_, pw_and pa pb, and_sound sa sb⟩
theorem aw_or {rest : List Expr} {p : Pos} (ha : AT X S0 a ft) (hb : AW X S0 (.BoolOp .Or (b :: rest) p) fu) : AW X S0 (.BoolOp .Or (a :: b :: rest) p) (aOr ft fu) := by
  obtain ⟨ta, pa, sa⟩ := ha.ex
  obtain ⟨tb, pb, sb⟩ := hb.ex
  exact ⟨_, pw_or pa pb, or_sound sa sb⟩
theorem aw_at (h : AW X S0 a ft) : AT X S0 a ft := by
  obtain ⟨t, p, s⟩ := h.ex
  exact ⟨t, p.pt, s⟩
/-! ### rows of expressions, tuples, lists -/
def aNil : AbA := fun _ m P => P [] m
def aCons (fa : Ab) (fr : AbA) : AbA := fun g m P => fa g m fun d m1 => fr g m1 fun ds m2 => P (d :: ds) m2
theorem aa_nil : AA X S0 [] aNil := ⟨_, pa_nil, fun g m P h st H rp e0 en Q q => q [] H [] m h (Po.refl rp) rfl⟩
def aTup (fs : AbA) : Ab := fun g m P => fs g m fun ds m1 => ds.length ≤ 100000 ∧ P (.tup ds) m1
/-- a list that will not change | one that may -/
def aLst (fs : AbA) : Ab := fun g m P => fs g m fun ds m1 => ds.length ≤ 100000 ∧ P (.lst ds) m1
def aLstB (fs : AbA) : Ab := fun g m P => fs g m fun ds m1 => ds.length ≤ 100000 ∧ ∀ p, m1 p = none → P (.box p) (mset m1 p (.lst ds))
end
end AL
set_option maxHeartbeats 1000000
namespace AL
open PySem L2 Evl
section
variable {X : Cx} {S0 : Hp} {a b c e : Expr} {es : List Expr} {fa fb fc : Ab} {ft fu : AbT} {fs fr : AbA} {pos : Pos} {K : PySem.W.Frag}
theorem aa_cons (ha : AE X S0 e fa) (hr : AA X S0 es fr) (hs : starEach (e :: es) X.env = (false, eval e X.env) :: starEach es X.env := by rfl) : AA X S0 (e :: es) (aCons fa fr) := by
  obtain ⟨ta, pa, sa⟩ := ha.ex
  obtain ⟨tb, pb, sb⟩ := hr.ex
  exact ⟨_, pa_cons pa pb hs, fun g m P h st H rp e0 en Q q => sa g m _ h st H rp e0 en _ fun v H1 d m1 h1 p1 d1 =>
    sb g m1 _ h1 st H1 p1.1 (e0.trans p1.2) (en.mono p1.2) _ fun vs H2 ds m2 h2 p2 d2 =>
      q (v :: vs) H2 (d :: ds) m2 h2 (p1.trans p2) ⟨v, vs, rfl, Den.mono p2.2 _ _ d1, d2⟩⟩
theorem ae_tup {x1} (h : AA X S0 es fs) : AE X S0 (.Tuple es x1 pos) (aTup fs) := by
  obtain ⟨t, p, s⟩ := h.ex
  refine ⟨_, pe_tup p, fun g m P h st H rp e0 en Q q => s g m _ h st H rp e0 en _ fun vs H1 ds m1 h1 p1 d1 => ⟨sz_of (by rw [d1.len]; exact h1.1), fun l hl => ?_⟩⟩
  obtain ⟨p2, hr⟩ := Po.new (o := .tup vs) p1.1 hl
  exact q _ _ (.tup ds) m1 h1.2 (p1.trans p2) ⟨l, vs, rfl, st_of hr, DenL.mono p2.2 _ _ d1⟩
theorem ae_lst (h : AA X S0 es fs) : AE X S0 (.List es pos) (aLst fs) := by
  obtain ⟨t, p, s⟩ := h.ex
  refine ⟨_, pe_lst p, fun g m P h st H rp e0 en Q q => s g m _ h st H rp e0 en _ fun vs H1 ds m1 h1 p1 d1 => ⟨sz_of (by rw [d1.len]; exact h1.1), fun l hl => ?_⟩⟩
  obtain ⟨p2, hr⟩ := Po.new (o := .lst vs) p1.1 hl
  exact q _ _ (.lst ds) m1 h1.2 (p1.trans p2) ⟨l, vs, rfl, hr, DenL.mono p2.2 _ _ d1⟩
theorem ae_lstB (h : AA X S0 es fs) : AE X S0 (.List es pos) (aLstB fs) := by
  obtain ⟨t, p, s⟩ := h.ex
  refine ⟨_, pe_lst p, fun g m P h st H rp e0 en Q q => s g m _ h st H rp e0 en _ fun vs H1 ds m1 h1 p1 d1 => ⟨sz_of (by rw [d1.len]; exact h1.1), fun l hl => ?_⟩⟩
  have p2 := Po.newL (ds := ds) (vs := vs) p1.1 hl d1
  exact q _ _ (.box l) _ (h1.2 l (p1.1.fresh hl)) (p1.trans p2) rfl
/-! ### two-place operations -/
theorem den_int {S : Hp} {d : D} {v : V} (h : Den K S d v) {P : Int → Prop} (q : match d with | .int i => P i | _ => False) : ∃ i, d = .int i ∧ v = .int i ∧ P i := by
  cases d with
  | int i => exact ⟨i, rfl, h, q⟩
  | _ => exact (show False from q).elim
def fI2 (f : Int → Int → D) (C : Int → Int → Prop) : D → D → Mu → PD → Prop := fun x y m P => match x, y with
  | .int i, .int j => C i j ∧ P (f i j) m
  | _, _ => False
theorem fI2_inv {f : Int → Int → D} {C : Int → Int → Prop} {x y : D} {m : Mu} {P : PD} (h : fI2 f C x y m P) : ∃ i j, x = .int i ∧ y = .int j ∧ C i j ∧ P (f i j) m := by
  cases x <;> cases y <;> first | exact ⟨_, _, rfl, rfl, h.1, h.2⟩ | exact (show False from h).elim
theorem opA_I {C : Int → Int → Prop} {g : Int → Int → V} {f : Int → Int → D} (hd : ∀ S i j, Den K S (f i j) (g i j)) : OpA K (rI C g) (fI2 f C) := fun x y m P h v w H rp d1 d2 Q q => by
  obtain ⟨i, j, rfl, rfl, hc, hp⟩ := fI2_inv h
  exact ⟨i, j, d1, d2, hc, q _ H _ m hp (Po.refl rp) (hd _ _ _)⟩
theorem opA_I0 {g : Int → Int → V} {f : Int → Int → D} (hd : ∀ S i j, Den K S (f i j) (g i j)) : OpA K (rI0 g) (fI2 f fun _ _ => True) := fun x y m P h v w H rp d1 d2 Q q => by
  obtain ⟨i, j, rfl, rfl, hc, hp⟩ := fI2_inv h
  exact ⟨i, j, d1, d2, q _ H _ m hp (Po.refl rp) (hd _ _ _)⟩
/-- two operations by the kind of what they get -/
theorem OpR.or {f : Value → Value → Sem Value} {r r' : R2} (h : OpR X f r) (h' : OpR X f r') : OpR X f (fun x y H Q => r x y H Q ∨ r' x y H Q) :=
  fun pins s σ H x y v u Q I rx ry q => q.elim (h pins s σ H x y v u Q I rx ry) (h' pins s σ H x y v u Q I rx ry)
theorem OpA.or {r r' : R2} {f f' : D → D → Mu → PD → Prop} (h : OpA K r f) (h' : OpA K r' f') : OpA K (fun x y H Q => r x y H Q ∨ r' x y H Q) (fun x y m P => f x y m P ∨ f' x y m P) :=
  fun x y m P hh v w H rp d1 d2 Q q => hh.elim (fun z => .inl (h x y m P z v w H rp d1 d2 Q q)) (fun z => .inr (h' x y m P z v w H rp d1 d2 Q q))
theorem OpA.imp {r : R2} {f f' : D → D → Mu → PD → Prop} (h : OpA K r f) (i : ∀ x y m P, f' x y m P → f x y m P) : OpA K r f' := fun x y m P hh => h x y m P (i x y m P hh)
/-- what data reads as a list -/
def lstOf (m : Mu) : D → Option (List D)
  | .lst ds => some ds
  | .box a => match m a with
    | some (.lst ds) => some ds
    | _ => none
  | _ => none
/-- a + b -/
def fAdd : D → D → Mu → PD → Prop := fun x y m P => match x, y with
  | .int i, .int j => P (.int (i + j)) m
  | .str s, .str t => s.length + t.length ≤ 1000000 ∧ P (.str (s ++ t)) m
  | .tup s, .tup t => s.length + t.length ≤ 100000 ∧ P (.tup (s ++ t)) m
  | x, y => match lstOf m x, lstOf m y with
    | some s, some t => s.length + t.length ≤ 100000 ∧ P (.lst (s ++ t)) m
    | _, _ => False
def fAddB : D → D → Mu → PD → Prop := fun x y m P => match lstOf m x, lstOf m y with
    | some s, some t => s.length + t.length ≤ 100000 ∧ ∀ p, m p = none → P (.box p) (mset m p (.lst (s ++ t)))
    | _, _ => False
/-- a list's place as a tracked one -/
theorem lst_den {m : Mu} {H : Hp} {d : D} {v : V} {ds : List D} (r : Rep K H m) (h : Den K (R m H) d v) (e : lstOf m d = some ds) :
    ∃ p vs, v = .ref p ∧ H p = some (.lst vs) ∧ DenL K (R m H) ds vs := by
  cases d with
  | lst es =>
    cases e
    obtain ⟨a, vs, h1, h2, h3⟩ := h
    exact ⟨a, vs, h1, (R_of h2).2, h3⟩
  | box a =>
    have e' : (match m a with
      | some (.lst ds) => some ds
      | _ => none) = some ds := e
    cases hm : m a with
    | none =>
      rw [hm] at e'
      cases e'
    | some o =>
      rw [hm] at e'
      cases o with
      | lst es =>
        cases e'
        obtain ⟨vs, h1, h2⟩ := r a _ hm
        exact ⟨a, vs, h, h1, h2⟩
      | ins C dx fs => cases e'
  | _ => cases e
def rAddS : R2 := fun x y H Q => ∃ i j, x = .str i ∧ y = .str j ∧ i.length + j.length ≤ sizeLine ∧ Q (.str (i ++ j)) H
def rAddU (K : PySem.W.Frag) : R2 := fun x y H Q => (rI0 (fun i j => .int (i + j)) x y H Q ∨ rAddS x y H Q) ∨ rCatA K x y H Q ∨ rCat x y H Q
theorem op_addU : OpR X (binaryOp .Add) (rAddU X.K) := OpR.or (OpR.or op_add op_add_str) (OpR.or op_catA op_cat)
theorem big_of {n : Nat} (h : n ≤ 1000000) : n ≤ sizeLine := Nat.le_trans h (by decide)
theorem cat_lists {m : Mu} {H : Hp} {x y : D} {v w : V} {s t : List D} (rp : Rep K H m) (d1 : Den K (R m H) x v) (d2 : Den K (R m H) y w) (e1 : lstOf m x = some s) (e2 : lstOf m y = some t)
    (hz : s.length + t.length ≤ 100000) {Q : VK} (q : ∀ p vs, H p = none → DenL K (R m H) (s ++ t) vs → Q (.ref p) (upd H p (.lst vs))) : rCat v w H Q := by
  obtain ⟨p, vs, rfl, hp, hd⟩ := lst_den rp d1 e1
  obtain ⟨p2, ws, rfl, hp2, hd2⟩ := lst_den rp d2 e2
  exact ⟨p, p2, vs, ws, rfl, rfl, hp, hp2, sz_of (by rw [hd.len, hd2.len]; exact hz), fun l hl => q l _ hl (hd.app hd2)⟩
theorem opA_add : OpA K (rAddU K) fAdd := fun x y m P h v w H rp d1 d2 Q q => by
  have lists : (match lstOf m x, lstOf m y with
    | some s, some t => s.length + t.length ≤ 100000 ∧ P (.lst (s ++ t)) m
    | _, _ => False) → rAddU K v w H Q := fun z => by
    cases e1 : lstOf m x with
    | none =>
      rw [e1] at z
      exact z.elim
    | some s =>
      cases e2 : lstOf m y with
      | none =>
        rw [e1, e2] at z
        exact z.elim
      | some t =>
        rw [e1, e2] at z
        refine .inr (.inr (cat_lists rp d1 d2 e1 e2 z.1 fun p vs hp hd => ?_))
        obtain ⟨p2, hr⟩ := Po.new (o := .lst vs) rp hp
        exact q _ _ _ m z.2 p2 ⟨p, vs, rfl, hr, DenL.mono p2.2 _ _ hd⟩
  cases x <;> cases y <;> first | exact lists h | skip
  · rename_i i j
    cases d1
    cases d2
    exact .inl (.inl ⟨i, j, rfl, rfl, q _ H _ m h (Po.refl rp) rfl⟩)
  · rename_i s t
    cases d1
    cases d2
    have h' : s.length + t.length ≤ 1000000 ∧ P (.str (s ++ t)) m := h
    exact .inl (.inr ⟨s, t, rfl, rfl, big_of h'.1, q _ H _ m h'.2 (Po.refl rp) rfl⟩)
  · rename_i s t
    have h' : s.length + t.length ≤ 100000 ∧ P (.tup (s ++ t)) m := h
    obtain ⟨a1, vs, rfl, s1, e1⟩ := d1
    obtain ⟨a2, ws, rfl, s2, e2⟩ := d2
    have up : Ex (R m H) H := fun a o q => (R_of q).2
    refine .inr (.inl ⟨a1, a2, vs, ws, rfl, rfl, ex_t up s1, ex_t up s2, sz_of (by rw [e1.len, e2.len]; exact h'.1), fun z => ?_, fun z0 z => ?_, fun _ _ p hp => ?_⟩)
    · subst z
      have hs : s = [] := List.eq_nil_of_length_eq_zero (by have := e1.len; simpa using this.symm)
      subst hs
      exact q _ H _ m h'.2 (Po.refl rp) ⟨a2, ws, rfl, s2, e2⟩
    · subst z
      have ht : t = [] := List.eq_nil_of_length_eq_zero (by have := e2.len; simpa using this.symm)
      subst ht
      have h2 := h'.2
      rw [List.append_nil] at h2
      exact q _ H _ m h2 (Po.refl rp) ⟨a1, vs, rfl, s1, e1⟩
    · obtain ⟨p2, hr⟩ := Po.new (o := .tup (vs ++ ws)) rp hp
      exact q _ _ _ m h'.2 p2 ⟨p, _, rfl, st_of hr, DenL.mono p2.2 _ _ (e1.app e2)⟩
theorem opA_addB : OpA K rCat fAddB := fun x y m P h v w H rp d1 d2 Q q => by
  have z : (match lstOf m x, lstOf m y with
    | some s, some t => s.length + t.length ≤ 100000 ∧ ∀ p, m p = none → P (.box p) (mset m p (.lst (s ++ t)))
    | _, _ => False) := h
  cases e1 : lstOf m x with
  | none =>
    rw [e1] at z
    exact z.elim
  | some s =>
    cases e2 : lstOf m y with
    | none =>
      rw [e1, e2] at z
      exact z.elim
    | some t =>
      rw [e1, e2] at z
      refine cat_lists rp d1 d2 e1 e2 z.1 fun p vs hp hd => ?_
      have p2 := Po.newL (ds := s ++ t) (vs := vs) rp hp hd
      exact q _ _ (.box p) _ (z.2 p (rp.fresh hp)) p2 rfl
theorem ae_add (ha : AE X S0 a fa) (hb : AE X S0 b fb) : AE X S0 (.BinOp a .Add b pos) (aOp fAdd fa fb) := ae_op op_addU opA_add ha hb
theorem ae_addB (ha : AE X S0 a fa) (hb : AE X S0 b fb) : AE X S0 (.BinOp a .Add b pos) (aOp fAddB fa fb) := ae_op op_cat opA_addB ha hb
def fSub := fI2 (fun i j => .int (i - j)) fun _ _ => True
theorem ae_sub (ha : AE X S0 a fa) (hb : AE X S0 b fb) : AE X S0 (.BinOp a .Sub b pos) (aOp fSub fa fb) := ae_op op_sub (opA_I0 fun _ _ _ => rfl) ha hb
def fFdiv := fI2 (fun i j => .int (i.fdiv j)) CDivN
theorem ae_fdiv (ha : AE X S0 a fa) (hb : AE X S0 b fb) : AE X S0 (.BinOp a .FloorDiv b pos) (aOp fFdiv fa fb) := ae_op op_fdivN (opA_I fun _ _ _ => rfl) ha hb
def fMod := fI2 (fun i j => .int (i.fmod j)) fun _ j => j ≠ 0
theorem ae_mod (ha : AE X S0 a fa) (hb : AE X S0 b fb) : AE X S0 (.BinOp a .Mod b pos) (aOp fMod fa fb) := ae_op op_modN (opA_I fun _ _ _ => rfl) ha hb
def fMul := fI2 (fun i j => .int (i * j)) CMul
theorem ae_mul (ha : AE X S0 a fa) (hb : AE X S0 b fb) : AE X S0 (.BinOp a .Mult b pos) (aOp fMul fa fb) := ae_op op_mul (opA_I fun _ _ _ => rfl) ha hb
end
end AL
set_option maxHeartbeats 1000000
namespace AL
open PySem L2 Evl
section
variable {X : Cx} {S0 : Hp} {a b c e : Expr} {es : List Expr} {fa fb fc : Ab} {ft fu : AbT} {fs fr : AbA} {pos : Pos} {K : PySem.W.Frag}
/-! ### comparisons -/
def eqD : D → D → Option Bool
  | .int i, .int j => some (decide (i = j))
  | .str i, .str j => some (decide (i = j))
  | .bl i, .bl j => some (decide (i = j))
  | .non, .non => some true
  | .int _, .str _ => some false
  | .str _, .int _ => some false
  | .non, .str _ => some false
  | .str _, .non => some false
  | .bl _, .str _ => some false
  | .str _, .bl _ => some false
  | .non, .int _ => some false
  | .int _, .non => some false
  | _, _ => none
def fEq : D → D → Mu → PD → Prop := fun x y m P => match eqD x y with
  | some b => P (.bl b) m
  | none => False
def fNe : D → D → Mu → PD → Prop := fun x y m P => match eqD x y with
  | some b => P (.bl (!b)) m
  | none => False
theorem eqD_ok {S : Hp} {x y : D} {v w : V} {k : Bool} (h : eqD x y = some k) (d1 : Den K S x v) (d2 : Den K S y w) : scal v w = true ∧ decide (v = w) = k := by
  cases x <;> cases y <;> first | cases h | skip
  all_goals (cases d1; cases d2; refine ⟨rfl, ?_⟩)
  all_goals first
    | rfl
    | (rename_i i j; rw [decide_eq_decide]; exact ⟨fun z => by cases z; rfl, fun z => by rw [z]⟩)
    | (apply decide_eq_false; intro z; cases z)
theorem opA_eq : OpA K rEq fEq := fun x y m P h v w H rp d1 d2 Q q => by
  unfold fEq at h
  cases e : eqD x y with
  | none =>
    rw [e] at h
    exact h.elim
  | some k =>
    rw [e] at h
    obtain ⟨h1, h2⟩ := eqD_ok e d1 d2
    refine ⟨h1, ?_⟩
    rw [h2]
    exact q _ H _ m h (Po.refl rp) rfl
theorem opA_ne : OpA K rNe fNe := fun x y m P h v w H rp d1 d2 Q q => by
  unfold fNe at h
  cases e : eqD x y with
  | none =>
    rw [e] at h
    exact h.elim
  | some k =>
    rw [e] at h
    obtain ⟨h1, h2⟩ := eqD_ok e d1 d2
    refine ⟨h1, ?_⟩
    rw [h2]
    exact q _ H _ m h (Po.refl rp) rfl
theorem at_eq (ha : AE X S0 a fa) (hb : AE X S0 b fb) (hm : behindInMarks .Eq b = false := by exact nomark _) : AT X S0 (.Compare a [.Eq] [b] pos) (aTest (aOp fEq fa fb)) := at_cmp op_eq opA_eq hm ha hb
theorem at_ne (ha : AE X S0 a fa) (hb : AE X S0 b fb) (hm : behindInMarks .NotEq b = false := by exact nomark _) : AT X S0 (.Compare a [.NotEq] [b] pos) (aTest (aOp fNe fa fb)) := at_cmp op_ne opA_ne hm ha hb
theorem ae_eq (ha : AE X S0 a fa) (hb : AE X S0 b fb) (hm : behindInMarks .Eq b = false := by exact nomark _) : AE X S0 (.Compare a [.Eq] [b] pos) (aOp fEq fa fb) := ae_cmp op_eq opA_eq hm ha hb
theorem ae_ne (ha : AE X S0 a fa) (hb : AE X S0 b fb) (hm : behindInMarks .NotEq b = false := by exact nomark _) : AE X S0 (.Compare a [.NotEq] [b] pos) (aOp fNe fa fb) := ae_cmp op_ne opA_ne hm ha hb
def fLt := fI2 (fun i j => .bl (decide (i < j))) fun _ _ => True
def fLe := fI2 (fun i j => .bl (decide (i ≤ j))) fun _ _ => True
def fGt := fI2 (fun i j => .bl (decide (j < i))) fun _ _ => True
def fGe := fI2 (fun i j => .bl (decide (j ≤ i))) fun _ _ => True
theorem at_lt (ha : AE X S0 a fa) (hb : AE X S0 b fb) (hm : behindInMarks .Lt b = false := by exact nomark _) : AT X S0 (.Compare a [.Lt] [b] pos) (aTest (aOp fLt fa fb)) := at_cmp op_lt (opA_I0 fun _ _ _ => rfl) hm ha hb
theorem at_le (ha : AE X S0 a fa) (hb : AE X S0 b fb) (hm : behindInMarks .LtE b = false := by exact nomark _) : AT X S0 (.Compare a [.LtE] [b] pos) (aTest (aOp fLe fa fb)) := at_cmp op_le (opA_I0 fun _ _ _ => rfl) hm ha hb
theorem at_gt (ha : AE X S0 a fa) (hb : AE X S0 b fb) (hm : behindInMarks .Gt b = false := by exact nomark _) : AT X S0 (.Compare a [.Gt] [b] pos) (aTest (aOp fGt fa fb)) := at_cmp op_gt (opA_I0 fun _ _ _ => rfl) hm ha hb
theorem at_ge (ha : AE X S0 a fa) (hb : AE X S0 b fb) (hm : behindInMarks .GtE b = false := by exact nomark _) : AT X S0 (.Compare a [.GtE] [b] pos) (aTest (aOp fGe fa fb)) := at_cmp op_ge (opA_I0 fun _ _ _ => rfl) hm ha hb
/-- is None -/
def isN : D → Option Bool
  | .non => some true
  | _ => some false
def aIsN (neg : Bool) (fa : Ab) : Ab := fun g m P => fa g m fun d m1 => P (.bl (if neg then !(decide (isN d = some true)) else decide (isN d = some true))) m1
theorem isN_ok {S : Hp} {d : D} {v : V} (h : Den K S d v) : decide (v = .non) = decide (isN d = some true) := by
  cases d <;> first
    | (cases h; rfl)
    | (obtain ⟨a, vs, rfl, _⟩ := h; rfl)
    | (obtain ⟨a, rfl, _⟩ := h; rfl)
theorem ae_isN {n p : Pos} (ha : AE X S0 a fa) : AE X S0 (.Compare a [.Is] [.Constant .none 0 n] p) (aIsN false fa) := by
  obtain ⟨t, p, s⟩ := ha.ex
  refine ⟨_, pe_cmp (pc_isN p) rfl, fun g m P h st H rp e0 en Q q => s g m _ h st H rp e0 en _ fun v H1 d m1 h1 p1 d1 => ?_⟩
  rw [isN_ok d1]
  exact q _ H1 _ m1 h1 p1 rfl
theorem ae_notN {n p : Pos} (ha : AE X S0 a fa) : AE X S0 (.Compare a [.IsNot] [.Constant .none 0 n] p) (aIsN true fa) := by
  obtain ⟨t, p, s⟩ := ha.ex
  refine ⟨_, pe_cmp (pc_notN p) rfl, fun g m P h st H rp e0 en Q q => s g m _ h st H rp e0 en _ fun v H1 d m1 h1 p1 d1 => ?_⟩
  rw [isN_ok d1]
  exact q _ H1 _ m1 h1 p1 rfl
theorem at_bool {fa : Ab} (ha : AE X S0 a fa) (hb : ∀ w, isTrue a X.env w = (do let v ← w; standAt a.pos; holding [v] (truthy v)) := by intro _; rfl) : AT X S0 a (aTest fa) := at_val ha hb
/-- sign in text -/
def fIn : D → D → Mu → PD → Prop := fun x y m P => match x, y with
  | .str s, .str z => ∃ c, s = ⟨#[c]⟩ ∧ P (.bl (decide (c ∈ z.cps.toList))) m
  | _, _ => False
def fNi : D → D → Mu → PD → Prop := fun x y m P => match x, y with
  | .str s, .str z => ∃ c, s = ⟨#[c]⟩ ∧ P (.bl (!decide (c ∈ z.cps.toList))) m
  | _, _ => False
theorem opA_in : OpA K (fun x y H Q => ∃ (c : Nat) (z : Str), x = .str ⟨#[c]⟩ ∧ y = .str z ∧ Q (.bl (decide (c ∈ z.cps.toList))) H) fIn := fun x y m P h v w H rp d1 d2 Q q => by
  cases x <;> cases y <;> first | exact (show False from h).elim | skip
  cases d1
  cases d2
  obtain ⟨c, rfl, h⟩ := h
  exact ⟨c, _, rfl, rfl, q _ H _ m h (Po.refl rp) rfl⟩
theorem opA_ni : OpA K (fun x y H Q => ∃ (c : Nat) (z : Str), x = .str ⟨#[c]⟩ ∧ y = .str z ∧ Q (.bl (!decide (c ∈ z.cps.toList))) H) fNi := fun x y m P h v w H rp d1 d2 Q q => by
  cases x <;> cases y <;> first | exact (show False from h).elim | skip
  cases d1
  cases d2
  obtain ⟨c, rfl, h⟩ := h
  exact ⟨c, _, rfl, rfl, q _ H _ m h (Po.refl rp) rfl⟩
theorem at_in (ha : AE X S0 a fa) (hb : AE X S0 b fb) (hm : behindInMarks .In b = false := by rfl) : AT X S0 (.Compare a [.In] [b] pos) (aTest (aOp fIn fa fb)) := at_cmp op_in_sign opA_in hm ha hb
theorem at_ni (ha : AE X S0 a fa) (hb : AE X S0 b fb) (hm : behindInMarks .NotIn b = false := by rfl) : AT X S0 (.Compare a [.NotIn] [b] pos) (aTest (aOp fNi fa fb)) := at_cmp op_notIn_sign opA_ni hm ha hb
theorem ae_in (ha : AE X S0 a fa) (hb : AE X S0 b fb) (hm : behindInMarks .In b = false := by rfl) : AE X S0 (.Compare a [.In] [b] pos) (aOp fIn fa fb) := ae_cmp op_in_sign opA_in hm ha hb
/-! ### an item, a slice -/
def fIx : D → D → Mu → PD → Prop := fun x y m P => match y with
  | .int i => match x with
    | .str z => z.length ≤ 1000000 ∧ match atI z.cps.toList i with
      | some c => P (.str ⟨#[c]⟩) m
      | none => False
    | x => match seqOf m x with
      | some ds => match atI ds i with
        | some d => P d m
        | none => False
      | none => False
  | _ => False
theorem opA_ix : OpA K (rIx K) fIx := fun x y m P h v w H rp d1 d2 Q q => by
  cases y <;> first | exact (show False from h).elim | skip
  rename_i i
  cases d2
  have row : (match seqOf m x with
      | some ds => match atI ds i with
        | some d => P d m
        | none => False
      | none => False) → rIx K v (.int i) H Q := fun z => by
    cases e : seqOf m x with
    | none =>
      rw [e] at z
      exact z.elim
    | some ds =>
      rw [e] at z
      have z' : (match atI ds i with
        | some d => P d m
        | none => False) := z
      cases e2 : atI ds i with
      | none =>
        rw [e2] at z'
        exact z'.elim
      | some d =>
        rw [e2] at z'
        obtain ⟨p, vs, rfl, hs, hd⟩ := seq_den rp d1 e
        obtain ⟨u, h1, h2⟩ := hd.atI e2
        rcases hs with hs | hs
        · exact .inl ⟨p, vs, i, u, rfl, rfl, hs, h1, q u H d m z' (Po.refl rp) h2⟩
        · exact .inr (.inl ⟨p, vs, i, u, rfl, rfl, hs, h1, q u H d m z' (Po.refl rp) h2⟩)
  cases x <;> first | exact row h | skip
  rename_i z
  cases d1
  have h' : z.length ≤ 1000000 ∧ (match atI z.cps.toList i with
      | some c => P (.str ⟨#[c]⟩) m
      | none => False) := h
  obtain ⟨hz, h'⟩ := h'
  cases e : atI z.cps.toList i with
  | none =>
    rw [e] at h'
    exact h'.elim
  | some c =>
    rw [e] at h'
    exact .inr (.inr ⟨z, i, c, rfl, rfl, big_of hz, e, q _ H _ m h' (Po.refl rp) rfl⟩)
theorem ae_ix (ha : AE X S0 a fa) (hb : AE X S0 b fb) (hp : PlainIx b := by exact fun _ _ => rfl) : AE X S0 (.Subscript a b pos) (aOp fIx fa fb) := by
  obtain ⟨ta, pa, sa⟩ := ha.ex
  obtain ⟨tb, pb, sb⟩ := hb.ex
  exact ⟨_, pe_ix ix_seq pa pb hp, aop_sound opA_ix sa sb⟩
abbrev AbO := Sl → Mu → (Option Int → Mu → Prop) → Prop
structure AO (X : Cx) (S0 : Hp) (e : Option Expr) (f : AbO) : Prop where
  ex : ∃ t, PO X e t ∧ ∀ g m P, f g m P → ∀ st H, Rep X.K H m → Ex S0 (R m H) → Env X.K (R m H) g st → ∀ Q : Option Int → Hp → Prop, (∀ o H' m', P o m' → Po X.K m H m' H' → Q o H') → t st H Q
def aNo : AbO := fun _ m P => P none m
def aPart (fa : Ab) : AbO := fun g m P => fa g m fun d m1 => match d with
  | .int i => P (some i) m1
  | _ => False
theorem ao_none : AO X S0 none aNo := ⟨_, po_none, fun g m P h st H rp e0 en Q q => q none H m h (Po.refl rp)⟩
theorem ao_some (ha : AE X S0 a fa) : AO X S0 (some a) (aPart fa) := by
  obtain ⟨t, p, s⟩ := ha.ex
  refine ⟨_, po_some p, fun g m P h st H rp e0 en Q q => s g m _ h st H rp e0 en _ fun v H1 d m1 h1 p1 d1 => ?_⟩
  cases d <;> first | exact (show False from h1).elim | skip
  cases d1
  exact ⟨_, rfl, q _ H1 m1 h1 p1⟩
def cutD (ds : List D) (lo hi : Option Int) : List D := (ds.drop (HT.sIx ds.length 0 lo)).take (HT.sIx ds.length ds.length hi - HT.sIx ds.length 0 lo)
def fSl : D → Option Int → Option Int → Mu → PD → Prop := fun x lo hi m P => match x with
  | .str z => z.length ≤ 1000000 ∧ P (.str (cutS z lo hi)) m
  | .tup ds => P (.tup (cutD ds lo hi)) m
  | x => match lstOf m x with
    | some ds => P (.lst (cutD ds lo hi)) m
    | none => False
def rSlU (K : PySem.W.Frag) : V → Option Int → Option Int → Hp → VK → Prop := fun x lo hi H Q => rSlS x lo hi H Q ∨ rSlA K x lo hi H Q ∨ rSlL K x lo hi H Q
theorem sl_U : SlR X (rSlU X.K) := SlR.or sl_str (SlR.or sl_tupA sl_list)
def aSl (fa : Ab) (fl fh : AbO) : Ab := fun g m P => fa g m fun x m1 => fl g m1 fun lo m2 => fh g m2 fun hi m3 => fSl x lo hi m3 P
theorem cut_whole {vs : List V} {lo hi : Option Int} (h : HT.sIx vs.length 0 lo = 0 ∧ HT.sIx vs.length vs.length hi = vs.length) : cutV vs lo hi = vs := by
  unfold cutV
  rw [h.1, h.2]
  simp
theorem slA_ok {x : D} {lo hi : Option Int} {m : Mu} {P : PD} (h : fSl x lo hi m P) {v : V} {H : Hp} (rp : Rep K H m) (d1 : Den K (R m H) x v) {Q : VK} (q : ∀ z H' d m', P d m' → Po K m H m' H' → Den K (R m' H') d z → Q z H') : rSlU K v lo hi H Q := by
  have row : (match lstOf m x with
    | some ds => P (.lst (cutD ds lo hi)) m
    | none => False) → rSlU K v lo hi H Q := fun z => by
    cases e : lstOf m x with
    | none =>
      rw [e] at z
      exact z.elim
    | some ds =>
      rw [e] at z
      obtain ⟨p, vs, rfl, hs, hd⟩ := lst_den rp d1 e
      refine .inr (.inr ⟨p, vs, rfl, sq_of hs, fun l hl => ?_⟩)
      obtain ⟨p2, hr⟩ := Po.new (o := .lst (cutV vs lo hi)) rp hl
      exact q _ _ _ m z p2 ⟨l, _, rfl, hr, DenL.mono p2.2 _ _ hd.cut⟩
  cases x <;> first | exact row h | skip
  · rename_i z
    cases d1
    exact .inl ⟨z, rfl, big_of h.1, q _ H _ m h.2 (Po.refl rp) rfl⟩
  · rename_i ds
    obtain ⟨a1, vs, rfl, s1, e1⟩ := d1
    have up : Ex (R m H) H := fun a o q => (R_of q).2
    have h' : P (.tup (cutD ds lo hi)) m := h
    refine .inr (.inl ⟨a1, vs, rfl, ex_t up s1, fun z => ?_, fun z p hp => ?_⟩)
    · refine q _ H _ m h' (Po.refl rp) ⟨a1, vs, rfl, s1, ?_⟩
      have := e1.cut (lo := lo) (hi := hi)
      rw [cut_whole z] at this
      exact this
    · obtain ⟨p2, hr⟩ := Po.new (o := .tup (cutV vs lo hi)) rp hp
      exact q _ _ _ m h' p2 ⟨p, _, rfl, st_of hr, DenL.mono p2.2 _ _ e1.cut⟩
theorem ae_sl {lo hi : Option Expr} {fl fh : AbO} {p2 : Pos} (ha : AE X S0 a fa) (hl : AO X S0 lo fl) (hh : AO X S0 hi fh) : AE X S0 (.Subscript a (.Slice lo hi none p2) pos) (aSl fa fl fh) := by
  obtain ⟨ta, pa, sa⟩ := ha.ex
  obtain ⟨tb, pb, sb⟩ := hl.ex
  obtain ⟨tc, pc, sc⟩ := hh.ex
  refine ⟨_, pe_slice sl_U pa pb pc, fun g m P h st H rp e0 en Q q => sa g m _ h st H rp e0 en _ fun v H1 d m1 h1 p1 d1 => ?_⟩
  refine sb g m1 _ h1 st H1 p1.1 (e0.trans p1.2) (en.mono p1.2) _ fun l H2 m2 h2 q2 => ?_
  have p12 := p1.trans q2
  refine sc g m2 _ h2 st H2 q2.1 (e0.trans p12.2) (en.mono p12.2) _ fun u H3 m3 h3 q3 => ?_
  exact slA_ok h3 q3.1 (Den.mono (q2.trans q3).2 _ _ d1) fun z H4 d4 m4 h4 q4 d4' => q z H4 d4 m4 h4 (p12.trans (q3.trans q4)) d4'
/-! ### calls of what is built in -/
def CaA (K : PySem.W.Frag) (r : List V → Hp → VK → Prop) (f : List D → Mu → PD → Prop) : Prop :=
  ∀ xs m P, f xs m P → ∀ vs H, Rep K H m → DenL K (R m H) xs vs → ∀ Q : VK, (∀ z H' d m', P d m' → Po K m H m' H' → Den K (R m' H') d z → Q z H') → r vs H Q
def aCa (f : List D → Mu → PD → Prop) (fs : AbA) : Ab := fun g m P => fs g m fun ds m1 => f ds m1 P
theorem ca_sound {S0 : Hp} {r : List V → Hp → VK → Prop} {f : List D → Mu → PD → Prop} {t : TA} (hr : CaA K r f) (s : ∀ g m P, fs g m P → WA K S0 t g m P) : ∀ g m P, aCa f fs g m P → WX K S0 (fun st H Q => t st H fun vs H1 => r vs H1 Q) g m P :=
  fun g m P h st H rp e0 en Q q => s g m _ h st H rp e0 en _ fun vs H1 ds m1 h1 p1 d1 => hr ds m1 P h1 vs H1 p1.1 d1 Q fun z H2 d m2 h2 p2 d2 => q z H2 d m2 h2 (p1.trans p2) d2
theorem ae_cb {r : List V → Hp → VK → Prop} {f : List D → Mu → PD → Prop} {id : String} {x : Str} {p : Pos} (hc : CallR X (.builtin id) r) (hr : CaA X.K r f) (hg : Gl X x) (hm : X.mg x = none) (hv : bootBuiltins x = some (.builtin id)) (ha : AA X S0 (e :: es) fs)
    (hn : x ≠ "__name__" := by decide) (hdb : (x == ("__debug__" : Str)) = false := by decide)
    (he : starEach (e :: es) X.env = (false, eval e X.env) :: starEach es X.env := by rfl) (hpl : (backTo pos (starEach es X.env)).any (·.1) = false := by rfl) : AE X S0 (.Call (.Name x p) (e :: es) [] pos) (aCa f fs) := by
  obtain ⟨t, pt, s⟩ := ha.ex
  exact ⟨_, pe_callB hc hg hm hv pt hn hdb he hpl, ca_sound hr s⟩
end
end AL
set_option maxHeartbeats 1000000
namespace AL
open PySem L2 Evl
section
variable {X : Cx} {S0 : Hp} {a b c e : Expr} {es : List Expr} {fa fb fc : Ab} {ft fu : AbT} {fs fr : AbA} {pos : Pos} {K : PySem.W.Frag}
theorem ae_ct {r : List V → Hp → VK → Prop} {f : List D → Mu → PD → Prop} {T : String} {x : Str} {p : Pos} (hc : CallR X (.type T) r) (hr : CaA X.K r f) (hg : Gl X x) (hm : X.mg x = none) (hv : bootBuiltins x = some (.type T)) (ha : AA X S0 (e :: es) fs)
    (hn : x ≠ "__name__" := by decide) (hdb : (x == ("__debug__" : Str)) = false := by decide)
    (he : starEach (e :: es) X.env = (false, eval e X.env) :: starEach es X.env := by rfl) (hpl : (backTo pos (starEach es X.env)).any (·.1) = false := by rfl) : AE X S0 (.Call (.Name x p) (e :: es) [] pos) (aCa f fs) := by
  obtain ⟨t, pt, s⟩ := ha.ex
  exact ⟨_, pe_callTy hc hg hm hv pt hn hdb he hpl, ca_sound hr s⟩
theorem den1 {S : Hp} {d : D} {vs : List V} (h : DenL K S [d] vs) : ∃ v, vs = [v] ∧ Den K S d v := by
  obtain ⟨v, r, rfl, h1, h2⟩ := h
  rw [show r = [] from h2]
  exact ⟨v, rfl, h1⟩
theorem den2 {S : Hp} {d d' : D} {vs : List V} (h : DenL K S [d, d'] vs) : ∃ v w, vs = [v, w] ∧ Den K S d v ∧ Den K S d' w := by
  obtain ⟨v, r, rfl, h1, h2⟩ := h
  obtain ⟨w, rfl, h3⟩ := den1 h2
  exact ⟨v, w, rfl, h1, h3⟩
/-- len -/
def lenD (m : Mu) : D → Option Int
  | .str z => if z.length ≤ 1000000 then some z.length else none
  | d => (seqOf m d).map fun ds => (ds.length : Int)
def fLen : List D → Mu → PD → Prop := fun xs m P => match xs with
  | [d] => match lenD m d with
    | some n => P (.int n) m
    | none => False
  | _ => False
theorem caA_len : CaA K (fun xs H Q => ∃ x n, xs = [x] ∧ LenV K x H n ∧ Q (.int (n : Nat)) H) fLen := fun xs m P h vs H rp dl Q q => by
  match xs, h with
  | [d], h =>
    have h : (match lenD m d with
      | some n => P (.int n) m
      | none => False) := h
    obtain ⟨v, rfl, dv⟩ := den1 dl
    cases e : lenD m d with
    | none =>
      rw [e] at h
      exact h.elim
    | some n =>
      rw [e] at h
      have row : ∀ ds, seqOf m d = some ds → n = (ds.length : Int) → ∃ x k, [v] = [x] ∧ LenV K x H k ∧ Q (.int (k : Nat)) H := fun ds e1 en => by
        obtain ⟨p, ws, rfl, hs, hd⟩ := seq_den rp dv e1
        refine ⟨.ref p, ds.length, rfl, ?_, ?_⟩
        · rcases hs with z | z
          · exact .inl ⟨ws, z, hd.len.symm⟩
          · exact .inr ⟨ws, z, hd.len.symm⟩
        · rw [← en]
          exact q _ H _ m h (Po.refl rp) rfl
      have row' : (seqOf m d).map (fun ds => (ds.length : Int)) = some n → ∃ x k, [v] = [x] ∧ LenV K x H k ∧ Q (.int (k : Nat)) H := fun z => by
        cases e1 : seqOf m d with
        | none =>
          rw [e1] at z
          cases z
        | some ds =>
          rw [e1] at z
          cases z
          exact row ds e1 rfl
      cases d <;> first | exact row' e | skip
      rename_i z
      have e2 : (if z.length ≤ 1000000 then some (z.length : Int) else none) = some n := e
      by_cases hz : z.length ≤ 1000000
      · rw [if_pos hz] at e2
        cases e2
        cases dv
        exact ⟨.str z, z.length, rfl, ⟨big_of hz, rfl⟩, q _ H _ m h (Po.refl rp) rfl⟩
      · rw [if_neg hz] at e2
        cases e2
theorem ae_len {p : Pos} (hm : X.mg "len" = none) (ha : AA X S0 (e :: es) fs) (hg : Gl X "len" := by rfl) (he : starEach (e :: es) X.env = (false, eval e X.env) :: starEach es X.env := by rfl) (hpl : (backTo pos (starEach es X.env)).any (·.1) = false := by rfl) :
    AE X S0 (.Call (.Name "len" p) (e :: es) [] pos) (aCa fLen fs) := ae_cb call_len caA_len hg hm PySem.boot_len ha (by decide) (by decide) he hpl
/-- int of an int -/
def fInt : List D → Mu → PD → Prop := fun xs m P => match xs with
  | [.int i] => P (.int i) m
  | _ => False
theorem caA_int : CaA K (fun xs H Q => (∃ i, xs = [V.int i] ∧ Q (.int i) H) ∨ ∃ k, xs = [V.bl k] ∧ Q (.int (if k then 1 else 0)) H) fInt := fun xs m P h vs H rp dl Q q => by
  match xs, h with
  | [.int i], h =>
    obtain ⟨v, rfl, dv⟩ := den1 dl
    cases dv
    exact .inl ⟨i, rfl, q _ H _ m h (Po.refl rp) rfl⟩
theorem ae_int {p : Pos} (hm : X.mg "int" = none) (ha : AA X S0 (e :: es) fs) (hg : Gl X "int" := by rfl) (he : starEach (e :: es) X.env = (false, eval e X.env) :: starEach es X.env := by rfl) (hpl : (backTo pos (starEach es X.env)).any (·.1) = false := by rfl) :
    AE X S0 (.Call (.Name "int" p) (e :: es) [] pos) (aCa fInt fs) := ae_ct call_int1 caA_int hg hm (by decide +kernel) ha (by decide) (by decide) he hpl
def fMax : List D → Mu → PD → Prop := fun xs m P => match xs with
  | [.int i, .int j] => P (.int (if j > i then j else i)) m
  | _ => False
def fMin : List D → Mu → PD → Prop := fun xs m P => match xs with
  | [.int i, .int j] => P (.int (if j < i then j else i)) m
  | _ => False
theorem caA_max : CaA K (fun xs H Q => ∃ i j, xs = [V.int i, V.int j] ∧ Q (.int (if j > i then j else i)) H) fMax := fun xs m P h vs H rp dl Q q => by
  match xs, h with
  | [.int i, .int j], h =>
    obtain ⟨v, w, rfl, d1, d2⟩ := den2 dl
    cases d1
    cases d2
    exact ⟨i, j, rfl, q _ H _ m h (Po.refl rp) rfl⟩
theorem caA_min : CaA K (fun xs H Q => ∃ i j, xs = [V.int i, V.int j] ∧ Q (.int (if j < i then j else i)) H) fMin := fun xs m P h vs H rp dl Q q => by
  match xs, h with
  | [.int i, .int j], h =>
    obtain ⟨v, w, rfl, d1, d2⟩ := den2 dl
    cases d1
    cases d2
    exact ⟨i, j, rfl, q _ H _ m h (Po.refl rp) rfl⟩
theorem ae_max {p : Pos} (hc : X.calm = true) (hm : X.mg "max" = none) (ha : AA X S0 (e :: es) fs) (hg : Gl X "max" := by rfl) (he : starEach (e :: es) X.env = (false, eval e X.env) :: starEach es X.env := by rfl) (hpl : (backTo pos (starEach es X.env)).any (·.1) = false := by rfl) :
    AE X S0 (.Call (.Name "max" p) (e :: es) [] pos) (aCa fMax fs) := ae_cb (call_max2 hc) caA_max hg hm (by decide +kernel) ha (by decide) (by decide) he hpl
theorem ae_min {p : Pos} (hc : X.calm = true) (hm : X.mg "min" = none) (ha : AA X S0 (e :: es) fs) (hg : Gl X "min" := by rfl) (he : starEach (e :: es) X.env = (false, eval e X.env) :: starEach es X.env := by rfl) (hpl : (backTo pos (starEach es X.env)).any (·.1) = false := by rfl) :
    AE X S0 (.Call (.Name "min" p) (e :: es) [] pos) (aCa fMin fs) := ae_cb (call_min2 hc) caA_min hg hm (by decide +kernel) ha (by decide) (by decide) he hpl
/-- tuple(list), list(..) -/
def fTuple : List D → Mu → PD → Prop := fun xs m P => match xs with
  | [d] => match seqOf m d with
    | some ds => P (.tup ds) m
    | none => False
  | _ => False
theorem caA_tuple : CaA K (fun xs H Q => ∃ p ys, xs = [V.ref p] ∧ ((SqL K H p ys ∧ ∀ l, H l = none → Q (.ref l) (upd H l (.tup ys))) ∨ (SqT K H p ys ∧ Q (.ref p) H))) fTuple := fun xs m P h vs H rp dl Q q => by
  match xs, h with
  | [d], h =>
    have h : (match seqOf m d with
      | some ds => P (.tup ds) m
      | none => False) := h
    obtain ⟨v, rfl, dv⟩ := den1 dl
    have lists : ∀ ds, lstOf m d = some ds → P (.tup ds) m → ∃ p ys, [v] = [V.ref p] ∧ ((SqL K H p ys ∧ ∀ l, H l = none → Q (.ref l) (upd H l (.tup ys))) ∨ (SqT K H p ys ∧ Q (.ref p) H)) := fun ds e1 hp => by
      obtain ⟨p, ws, rfl, hs, hd⟩ := lst_den rp dv e1
      refine ⟨p, ws, rfl, .inl ⟨sq_of hs, fun l hl => ?_⟩⟩
      obtain ⟨p2, hr⟩ := Po.new (o := .tup ws) rp hl
      exact q _ _ _ m hp p2 ⟨l, _, rfl, st_of hr, DenL.mono p2.2 _ _ hd⟩
    cases d <;> first | exact (show False from h).elim | skip
    · rename_i a h0
      cases e1 : lstOf m (.box a) with
      | none =>
        have e2 : seqOf m (.box a) = none := e1
        rw [e2] at h
        exact h.elim
      | some ds =>
        have e2 : seqOf m (.box a) = some ds := e1
        rw [e2] at h
        exact lists ds e1 h
    · rename_i ds h0
      obtain ⟨p, ws, rfl, hs, hd⟩ := dv
      have up : Ex (R m H) H := fun a o q => (R_of q).2
      exact ⟨p, ws, rfl, .inr ⟨ex_t up hs, q _ H (.tup ds) m h (Po.refl rp) ⟨p, ws, rfl, hs, hd⟩⟩⟩
    · rename_i ds h0
      exact lists ds rfl h
    · rename_i ns h0
      obtain ⟨p, rfl, hs⟩ := dv
      have up : Ex (R m H) H := fun a o q => (R_of q).2
      refine ⟨p, _, rfl, .inl ⟨ex_l up hs, fun l hl => ?_⟩⟩
      obtain ⟨p2, hr⟩ := Po.new (o := .tup (ns.map V.int)) rp hl
      exact q _ _ _ m h p2 ⟨l, _, rfl, st_of hr, DenL.ints ns⟩
theorem ae_tuple {p : Pos} (hm : X.mg "tuple" = none) (ha : AA X S0 (e :: es) fs) (hg : Gl X "tuple" := by rfl) (he : starEach (e :: es) X.env = (false, eval e X.env) :: starEach es X.env := by rfl) (hpl : (backTo pos (starEach es X.env)).any (·.1) = false := by rfl) :
    AE X S0 (.Call (.Name "tuple" p) (e :: es) [] pos) (aCa fTuple fs) := ae_ct call_tuple_of caA_tuple hg hm (by decide +kernel) ha (by decide) (by decide) he hpl
def fList : List D → Mu → PD → Prop := fun xs m P => match xs with
  | [d] => match seqOf m d with
    | some ds => P (.lst ds) m
    | none => False
  | _ => False
theorem caA_list : CaA K (fun xs H Q => ∃ p ys, xs = [V.ref p] ∧ (SqL K H p ys ∨ SqT K H p ys) ∧ ∀ l, H l = none → Q (.ref l) (upd H l (.lst ys))) fList := fun xs m P h vs H rp dl Q q => by
  match xs, h with
  | [d], h =>
    have h : (match seqOf m d with
      | some ds => P (.lst ds) m
      | none => False) := h
    obtain ⟨v, rfl, dv⟩ := den1 dl
    cases e1 : seqOf m d with
    | none =>
      rw [e1] at h
      exact h.elim
    | some ds =>
      rw [e1] at h
      obtain ⟨p, ws, rfl, hs, hd⟩ := seq_den rp dv e1
      refine ⟨p, ws, rfl, hs, fun l hl => ?_⟩
      obtain ⟨p2, hr⟩ := Po.new (o := .lst ws) rp hl
      exact q _ _ _ m h p2 ⟨l, _, rfl, hr, DenL.mono p2.2 _ _ hd⟩
theorem ae_list {p : Pos} (hm : X.mg "list" = none) (ha : AA X S0 (e :: es) fs) (hg : Gl X "list" := by rfl) (he : starEach (e :: es) X.env = (false, eval e X.env) :: starEach es X.env := by rfl) (hpl : (backTo pos (starEach es X.env)).any (·.1) = false := by rfl) :
    AE X S0 (.Call (.Name "list" p) (e :: es) [] pos) (aCa fList fs) := ae_ct call_list_of caA_list hg hm (by decide +kernel) ha (by decide) (by decide) he hpl
/-- isinstance(x, T), T int, bool, str, tuple, list -/
def tyOf (m : Mu) : D → Option String
  | .non => some "NoneType"
  | .bl _ => some "bool"
  | .int _ => some "int"
  | .str _ => some "str"
  | .tup _ => some "tuple"
  | .lst _ => some "list"
  | .scr _ => none
  | .box a => match m a with
    | some (.lst _) => some "list"
    | _ => none
  | .ty _ => none
def isiT (t T : String) : Option Bool :=
  if T = "int" then some (t == "int" || t == "bool") else if T = "bool" then some (t == "bool") else if T = "str" then some (t == "str") else if T = "tuple" then some (t == "tuple") else if T = "list" then some (t == "list") else none
def fIsi : List D → Mu → PD → Prop := fun xs m P => match xs with
  | [x, .ty T] => match tyOf m x with
    | some t => match isiT t T with
      | some b => P (.bl b) m
      | none => False
    | none => False
  | _ => False
theorem tyOf_den {m : Mu} {H : Hp} {d : D} {v : V} {t : String} (rp : Rep K H m) (h : Den K (R m H) d v) (e : tyOf m d = some t) : TyX K H v (.type t) := by
  cases d with
  | non =>
    cases h
    cases e
    exact .base .non
  | bl b =>
    cases h
    cases e
    exact .base (.bl b)
  | int i =>
    cases h
    cases e
    exact .base (.int i)
  | str x =>
    cases h
    cases e
    exact .base (.str x)
  | ty n => cases e
  | scr n => cases e
  | tup ds =>
    cases e
    obtain ⟨p, ws, rfl, hs, hd⟩ := h
    rcases hs with (hs | ⟨o, hs⟩) | ⟨o, its, n, h1, h2, _⟩
    · exact .base (.tup (R_of hs).2)
    · exact .fTuple (R_of hs).2
    · exact .kTuple h1 h2
  | lst ds =>
    cases e
    obtain ⟨p, ws, rfl, hs, hd⟩ := h
    exact .base (.lst (R_of hs).2)
  | box a =>
    have e' : (match m a with
      | some (.lst _) => some "list"
      | _ => none) = some t := e
    cases hm : m a with
    | none =>
      rw [hm] at e'
      cases e'
    | some o =>
      rw [hm] at e'
      cases o with
      | lst es =>
        cases e'
        obtain ⟨vs, h1, h2⟩ := rp a _ hm
        cases h
        exact .base (.lst h1)
      | ins C dx fs => cases e'
theorem isiT_ok {t T : String} {b : Bool} (h : isiT t T = some b) (ht : t = "NoneType" ∨ t = "bool" ∨ t = "int" ∨ t = "str" ∨ t = "tuple" ∨ t = "list") : kitB t T = some b := by
  unfold isiT at h
  split at h
  · subst T
    cases h
    rcases ht with rfl | rfl | rfl | rfl | rfl | rfl <;> decide +kernel
  · split at h
    · subst T
      cases h
      rcases ht with rfl | rfl | rfl | rfl | rfl | rfl <;> decide +kernel
    · split at h
      · subst T
        cases h
        rcases ht with rfl | rfl | rfl | rfl | rfl | rfl <;> decide +kernel
      · split at h
        · subst T
          cases h
          rcases ht with rfl | rfl | rfl | rfl | rfl | rfl <;> decide +kernel
        · split at h
          · subst T
            cases h
            rcases ht with rfl | rfl | rfl | rfl | rfl | rfl <;> decide +kernel
          · cases h
theorem tyOf_few {m : Mu} {d : D} {t : String} (e : tyOf m d = some t) : t = "NoneType" ∨ t = "bool" ∨ t = "int" ∨ t = "str" ∨ t = "tuple" ∨ t = "list" := by
  cases d with
  | box a =>
    have e' : (match m a with
      | some (.lst _) => some "list"
      | _ => none) = some t := e
    cases hm : m a with
    | none =>
      rw [hm] at e'
      cases e'
    | some o =>
      rw [hm] at e'
      cases o with
      | lst es =>
        cases e'
        simp
      | ins C dx fs => cases e'
  | ty n => cases e
  | scr n => cases e
  | _ =>
    cases e
    simp
theorem caA_isi : CaA K (rIsi K) fIsi := fun xs m P h vs H rp dl Q q => by
  match xs, h with
  | [x, .ty T], h =>
    have h : (match tyOf m x with
      | some t => match isiT t T with
        | some b => P (.bl b) m
        | none => False
      | none => False) := h
    obtain ⟨v, w, rfl, d1, d2⟩ := den2 dl
    cases d2
    cases e : tyOf m x with
    | none =>
      rw [e] at h
      exact h.elim
    | some t =>
      rw [e] at h
      have h : (match isiT t T with
        | some b => P (.bl b) m
        | none => False) := h
      cases e2 : isiT t T with
      | none =>
        rw [e2] at h
        exact h.elim
      | some b =>
        rw [e2] at h
        exact ⟨v, .ty T, .type t, .type T, b, rfl, .ty T, tyOf_den rp d1 e, kit_ty (isiT_ok e2 (tyOf_few e)), q _ H _ m h (Po.refl rp) rfl⟩
theorem ae_isi {p : Pos} (hm : X.mg "isinstance" = none) (ha : AA X S0 (e :: es) fs) (hg : Gl X "isinstance" := by rfl) (he : starEach (e :: es) X.env = (false, eval e X.env) :: starEach es X.env := by rfl) (hpl : (backTo pos (starEach es X.env)).any (·.1) = false := by rfl) :
    AE X S0 (.Call (.Name "isinstance" p) (e :: es) [] pos) (aCa fIsi fs) := ae_cb call_isi caA_isi hg hm (by decide +kernel) ha (by decide) (by decide) he hpl
end
end AL
set_option maxHeartbeats 1000000
namespace AL
open PySem L2 Evl
section
variable {X : Cx} {S0 : Hp} {a b c e o : Expr} {es : List Expr} {fa fb fc fo : Ab} {ft fu : AbT} {fs fr : AbA} {pos apos : Pos} {K : PySem.W.Frag}
def fNeg : D → Mu → PD → Prop := fun x m P => match x with
  | .int i => P (.int (-i)) m
  | _ => False
def aUn (f : D → Mu → PD → Prop) (fa : Ab) : Ab := fun g m P => fa g m fun d m1 => f d m1 P
theorem ae_neg (ha : AE X S0 a fa) : AE X S0 (.UnaryOp .USub a pos) (aUn fNeg fa) := by
  obtain ⟨t, p, s⟩ := ha.ex
  refine ⟨_, pe_un un_neg p, fun g m P h st H rp e0 en Q q => s g m _ h st H rp e0 en _ fun v H1 d m1 h1 p1 d1 => ?_⟩
  cases d <;> first | exact (show False from h1).elim | skip
  cases d1
  exact ⟨_, rfl, q _ H1 _ m1 h1 p1 rfl⟩
/-! ### text * number -/
def repS (z : Str) (n : Int) : Str := ⟨((List.replicate n.toNat z.cps.toList).flatten).toArray⟩
theorem fold_cps (xs : Array Nat) : ∀ (n : Nat) (acc : Array Nat), (List.replicate n xs).foldl (· ++ ·) acc = (acc.toList ++ (List.replicate n xs.toList).flatten).toArray
  | 0, acc => by simp
  | n + 1, acc => by
    rw [List.replicate_succ, List.foldl_cons, fold_cps xs n, List.replicate_succ]
    simp
theorem rep_flat (l : List Nat) : ∀ n : Nat, ((List.replicate n l).flatten).length = n * l.length
  | 0 => by simp
  | n + 1 => by rw [List.replicate_succ, List.flatten_cons, List.length_append, rep_flat l n, Nat.succ_mul, Nat.add_comm]
theorem repS_len (z : Str) (n : Int) : (repS z n).length = n.toNat * z.length := by
  show (((List.replicate n.toNat z.cps.toList).flatten).toArray).size = n.toNat * z.cps.size
  rw [List.size_toArray, rep_flat, Array.length_toList]
def rRepS : R2 := fun x y H Q => ∃ z n, x = .str z ∧ y = .int n ∧ -(2 ^ 62) < n ∧ n ≤ 1000 ∧ z.length ≤ 1000 ∧ Q (.str (repS z n)) H
theorem op_repS : OpR X (binaryOp .Mult) rRepS := by
  intro pins s st H x y v u Q I rx ry h
  obtain ⟨z, n, rfl, rfl, h1, h2, h3, q⟩ := h
  obtain ⟨t, rfl⟩ := rx
  obtain ⟨t2, rfl⟩ := ry
  have hlen : z.length = z.cps.size := rfl
  refine PySem.P.mul_str ?_ ?_ ?_ ?_
  · rw [decide_eq_false (by omega), decide_eq_false (by omega)]
    rfl
  · intro hn _
    have hn : 1 ≤ n := by omega
    have h4 : (1000 : Int) ≤ (2 ^ 63 - 1) / n := by
      rw [Int.le_ediv_iff_mul_le (by omega)]
      omega
    omega
  · intro hn _
    have hm : z.length * n.toNat ≤ 1000 * 1000 := Nat.mul_le_mul h3 (by omega)
    unfold Builtin.Str.tooLong
    exact decide_eq_false (Nat.not_lt.mpr (Nat.le_trans hm (by decide)))
  · by_cases hn : n < 1
    · rw [if_pos hn]
      have e : repS z n = Str.empty := by
        unfold repS
        rw [show n.toNat = 0 by omega]
        rfl
      rw [e] at q
      exact ⟨by decide, .str Str.empty, H, I.tok _, ⟨_, rfl⟩, q⟩
    · rw [if_neg hn]
      by_cases h5 : (n == 1 || z.length == 0) = true
      · rw [if_pos h5]
        have e : repS z n = z := by
          unfold repS
          rcases Bool.or_eq_true_iff.mp h5 with h6 | h6
          · have h6 : n = 1 := by simpa using h6
            subst h6
            simp
          · have h6 : z.cps = #[] := by simpa [hlen] using h6
            rw [h6]
            have : ∀ k : Nat, (List.replicate k ([] : List Nat)).flatten = [] := fun k => by
              induction k with
              | zero => rfl
              | succ k ih => rw [List.replicate_succ, List.flatten_cons, ih, List.append_nil]
            rw [show (#[] : Array Nat).toList = [] from rfl, this]
            cases z
            simp only [Str.mk.injEq]
            exact h6.symm
        rw [e] at q
        exact ⟨.str z, H, I, ⟨_, rfl⟩, q⟩
      · rw [if_neg h5]
        have e : (⟨(List.replicate n.toNat z.cps).foldl (· ++ ·) #[]⟩ : Str) = repS z n := by
          rw [fold_cps]
          rfl
        rw [e]
        refine ⟨?_, .str _, H, I.tok _, ⟨_, rfl⟩, q⟩
        rw [repS_len]
        exact Nat.le_trans (Nat.mul_le_mul (by omega : n.toNat ≤ 1000) h3) (by decide)
def fRepS : D → D → Mu → PD → Prop := fun x y m P => match x, y with
  | .str z, .int n => (-1000 ≤ n ∧ n ≤ 1000 ∧ z.length ≤ 1000) ∧ P (.str (repS z n)) m
  | _, _ => False
theorem opA_repS : OpA K rRepS fRepS := fun x y m P h v w H rp d1 d2 Q q => by
  cases x <;> cases y <;> first | exact (show False from h).elim | skip
  rename_i z n
  cases d1
  cases d2
  have h' : (-1000 ≤ n ∧ n ≤ 1000 ∧ z.length ≤ 1000) ∧ P (.str (repS z n)) m := h
  exact ⟨z, n, rfl, rfl, by omega, h'.1.2.1, h'.1.2.2, q _ H _ m h'.2 (Po.refl rp) rfl⟩
theorem ae_repS (ha : AE X S0 a fa) (hb : AE X S0 b fb) : AE X S0 (.BinOp a .Mult b pos) (aOp fRepS fa fb) := ae_op op_repS opA_repS ha hb
/-! ### methods -/
/-- xs.append(e), xs a list that may change -/
def fApp : D → List D → Mu → PD → Prop := fun x ys m P => match x, ys with
  | .box p, [d] => match m p with
    | some (.lst ds) => ds.length < 100000 ∧ P .non (mset m p (.lst (ds ++ [d])))
    | _ => False
  | _, _ => False
def fPop : D → List D → Mu → PD → Prop := fun x ys m P => match x, ys with
  | .box p, [] => match m p with
    | some (.lst ds) => match ds[ds.length - 1]? with
      | some d => P d (mset m p (.lst ds.dropLast))
      | none => False
    | _ => False
  | _, _ => False
def aM (f : D → List D → Mu → PD → Prop) (fo : Ab) (fs : AbA) : Ab := fun g m P => fo g m fun x m1 => fs g m1 fun ys m2 => f x ys m2 P
/-- what a list method's receiver must be, ahead of the arguments: the arguments leave lists lists -/
theorem box_den {m : Mu} {H : Hp} {p : Addr} {ds : List D} (rp : Rep K H m) (h : m p = some (.lst ds)) : ∃ vs, H p = some (.lst vs) ∧ DenL K (R m H) ds vs := rp p _ h
def isL (m : Mu) : D → Prop
  | .box p => match m p with
    | some (.lst _) => True
    | _ => False
  | _ => False
theorem isL_ty {m : Mu} {H : Hp} {d : D} {v : V} (rp : Rep K H m) (h : Den K (R m H) d v) (l : isL m d) : tyV K "list" v H := by
  cases d <;> first | exact (show False from l).elim | skip
  rename_i p
  have l' : (match m p with
    | some (.lst _) => True
    | _ => False) := l
  cases e : m p with
  | none =>
    rw [e] at l'
    exact l'.elim
  | some o =>
    rw [e] at l'
    cases o with
    | ins C dx fs => exact l'.elim
    | lst ds =>
      obtain ⟨vs, h1, _⟩ := rp p _ e
      cases h
      exact .inl ⟨rfl, vs, sq_of h1⟩
def aML (f : D → List D → Mu → PD → Prop) (fo : Ab) (fs : AbA) : Ab := fun g m P => fo g m fun x m1 => isL m1 x ∧ fs g m1 fun ys m2 => f x ys m2 P
theorem app_ok {x : D} {ys : List D} {m : Mu} {P : PD} (h : fApp x ys m P) {v : V} {vs : List V} {H : Hp} (rp : Rep K H m) (d1 : Den K (R m H) x v) (d2 : DenL K (R m H) ys vs) {Q : VK} (q : ∀ z H' d m', P d m' → Po K m H m' H' → Den K (R m' H') d z → Q z H') : rAppend v vs H Q := by
  match x, ys, h with
  | .box p, [d], h =>
    have h : (match m p with
      | some (.lst ds) => ds.length < 100000 ∧ P .non (mset m p (.lst (ds ++ [d])))
      | _ => False) := h
    cases e : m p with
    | none =>
      rw [e] at h
      exact h.elim
    | some o =>
      rw [e] at h
      cases o with
      | ins C dx fs => exact h.elim
      | lst ds =>
        obtain ⟨us, h1, h2⟩ := rp p _ e
        obtain ⟨w, rfl, dw⟩ := den1 d2
        cases d1
        refine ⟨p, us, w, rfl, rfl, h1, sz_lt (by rw [h2.len]; exact h.1), ?_⟩
        exact q _ _ _ _ h.2 (Po.setL rp e (h2.app (DenL.one dw))) rfl
theorem pop_ok {x : D} {m : Mu} {P : PD} (h : fPop x [] m P) {v : V} {H : Hp} (rp : Rep K H m) (d1 : Den K (R m H) x v) {Q : VK} (q : ∀ z H' d m', P d m' → Po K m H m' H' → Den K (R m' H') d z → Q z H') : rPop v [] H Q := by
  match x, h with
  | .box p, h =>
    have h : (match m p with
      | some (.lst ds) => (match ds[ds.length - 1]? with
        | some d => P d (mset m p (.lst ds.dropLast))
        | none => False)
      | _ => False) := h
    cases e : m p with
    | none =>
      rw [e] at h
      exact h.elim
    | some o =>
      rw [e] at h
      cases o with
      | ins C dx fs => exact h.elim
      | lst ds =>
        obtain ⟨us, h1, h2⟩ := rp p _ e
        have h : (match ds[ds.length - 1]? with
          | some d => P d (mset m p (.lst ds.dropLast))
          | none => False) := h
        cases e2 : ds[ds.length - 1]? with
        | none =>
          rw [e2] at h
          exact h.elim
        | some d =>
          rw [e2] at h
          obtain ⟨w, hw, dw⟩ := h2.get e2
          cases d1
          refine ⟨p, us, w, rfl, rfl, h1, by rw [h2.len]; exact hw, ?_⟩
          have po := Po.setL rp e h2.dropLast
          exact q _ _ _ _ h po (Den.mono po.2 _ _ dw)
theorem ae_app (ho : AE X S0 o fo) (ha : AA X S0 (e :: es) fs) (hbase : attributeBase o "append" X.env (eval o X.env) = eval o X.env := by rfl)
    (hfew : ((backTo pos (starEach (e :: es) X.env)).all (fun x => !x.1) && (backToKw pos (keywordEach [] X.env)).all (fun x => x.1.isSome)
      && decide ((e :: es).length + ([] : List Keyword).length + (if ([] : List Keyword).isEmpty then 0 else 1) < 30)) = true := by rfl)
    (hline : (apos.endLine == pos.line) = true := by rfl) (hs : starEach (e :: es) X.env = (false, eval e X.env) :: starEach es X.env := by rfl) (hplain : (backTo pos (starEach es X.env)).any (·.1) = false := by rfl) :
    AE X S0 (.Call (.Attribute o "append" apos) (e :: es) [] pos) (aML fApp fo fs) := by
  obtain ⟨to, po, so⟩ := ho.ex
  obtain ⟨ta, pa, sa⟩ := ha.ex
  refine ⟨_, pe_bm PySem.F.plainAttrs_list PySem.F.slot_list_append PySem.F.type_list_append mt_append po pa hbase hfew hline hs hplain, fun g m P h st H rp e0 en Q q => ?_⟩
  refine so g m _ h st H rp e0 en _ fun v H1 d m1 h1 p1 d1 => ⟨isL_ty p1.1 d1 h1.1, ?_⟩
  refine sa g m1 _ h1.2 st H1 p1.1 (e0.trans p1.2) (en.mono p1.2) _ fun vs H2 ds m2 h2 p2 d2 => ?_
  exact app_ok h2 p2.1 (Den.mono p2.2 _ _ d1) d2 fun z H3 d3 m3 h3 p3 d3' => q z H3 d3 m3 h3 (p1.trans (p2.trans p3)) d3'
theorem ae_pop (ho : AE X S0 o fo) (hbase : attributeBase o "pop" X.env (eval o X.env) = eval o X.env := by rfl) (hline : (apos.endLine == pos.line) = true := by rfl) :
    AE X S0 (.Call (.Attribute o "pop" apos) [] [] pos) (aML fPop fo aNil) := by
  obtain ⟨to, po, so⟩ := ho.ex
  refine ⟨_, pe_bm0 PySem.F.plainAttrs_list PySem.F.slot_list_pop PySem.F.type_list_pop mt_pop po hbase hline, fun g m P h st H rp e0 en Q q => ?_⟩
  refine so g m _ h st H rp e0 en _ fun v H1 d m1 h1 p1 d1 => ⟨isL_ty p1.1 d1 h1.1, ?_⟩
  exact pop_ok h1.2 p1.1 d1 fun z H3 d3 m3 h3 p3 d3' => q z H3 d3 m3 h3 (p1.trans p3) d3'
/-- sep.join(xs) -/
def strOf : D → Option Str
  | .str z => some z
  | _ => none
def strsOf : List D → Option (List Str)
  | [] => some []
  | d :: r => match strOf d with
    | some z => match strsOf r with
      | some zs => some (z :: zs)
      | none => none
    | none => none
def fJoin : D → D → Mu → PD → Prop := fun x y m P => match x, seqOf m y with
  | .str a, some ds => match strsOf ds with
    | some ys => ((ys.map (·.length)).sum + ys.length * a.length ≤ 1000000) ∧ P (.str (Txt.join a ys)) m
    | none => False
  | _, _ => False
theorem strOf_den {S : Hp} {d : D} {v : V} {z : Str} (h : Den K S d v) (e : strOf d = some z) : v = .str z := by
  cases d with
  | str y =>
    cases e
    exact h
  | _ => cases e
theorem strsOf_den {S : Hp} {ds : List D} : ∀ {vs : List V} {ys : List Str}, DenL K S ds vs → strsOf ds = some ys → vs = ys.map V.str := by
  induction ds with
  | nil =>
    intro vs ys h e
    have e : some [] = some ys := e
    rw [← Option.some.inj e]
    exact h
  | cons d r ih =>
    intro vs ys h e
    obtain ⟨v, w, h1, h2, h3⟩ := h
    have e : (match strOf d with
      | some z => (match strsOf r with
        | some zs => some (z :: zs)
        | none => none)
      | none => none) = some ys := e
    cases q : strOf d with
    | none =>
      rw [q] at e
      cases e
    | some z =>
      rw [q] at e
      have e : (match strsOf r with
        | some zs => some (z :: zs)
        | none => none) = some ys := e
      cases q2 : strsOf r with
      | none =>
        rw [q2] at e
        cases e
      | some zs =>
        rw [q2] at e
        have e : some (z :: zs) = some ys := e
        rw [← Option.some.inj e, h1, List.map_cons, ih h3 q2, strOf_den h2 q]
def aJoin (fo fa : Ab) : Ab := fun g m P => fo g m fun x m1 => (∃ z, x = .str z) ∧ fa g m1 fun y m2 => fJoin x y m2 P
theorem ae_join (ho : AE X S0 o fo) (ha : AE X S0 e fa) (hs : starEach [e] X.env = [(false, eval e X.env)] := by rfl) (hbase : attributeBase o "join" X.env (eval o X.env) = eval o X.env := by rfl) (hline : (apos.endLine == pos.line) = true := by rfl) :
    AE X S0 (.Call (.Attribute o "join" apos) [e] [] pos) (aJoin fo fa) := by
  obtain ⟨to, po, so⟩ := ho.ex
  obtain ⟨ta, pa, sa⟩ := ha.ex
  refine ⟨_, pe_join po pa hs hbase hline, fun g m P h st H rp e0 en Q q => ?_⟩
  refine so g m _ h st H rp e0 en _ fun v H1 d m1 h1 p1 d1 => ?_
  obtain ⟨⟨z, rfl⟩, h1⟩ := h1
  cases d1
  refine ⟨⟨z, rfl⟩, sa g m1 _ h1 st H1 p1.1 (e0.trans p1.2) (en.mono p1.2) _ fun w H2 d2 m2 h2 p2 d2' => ?_⟩
  have h2 : (match seqOf m2 d2 with
    | some ds => (match strsOf ds with
      | some ys => ((ys.map (·.length)).sum + ys.length * z.length ≤ 1000000) ∧ P (.str (Txt.join z ys)) m2
      | none => False)
    | none => False) := by
    have h3 : fJoin (.str z) d2 m2 P := h2
    unfold fJoin at h3
    cases e : seqOf m2 d2 with
    | none =>
      rw [e] at h3
      exact h3
    | some ds =>
      rw [e] at h3
      exact h3
  cases e : seqOf m2 d2 with
  | none =>
    rw [e] at h2
    exact h2.elim
  | some ds =>
    rw [e] at h2
    have h2 : (match strsOf ds with
      | some ys => ((ys.map (·.length)).sum + ys.length * z.length ≤ 1000000) ∧ P (.str (Txt.join z ys)) m2
      | none => False) := h2
    cases e3 : strsOf ds with
    | none =>
      rw [e3] at h2
      exact h2.elim
    | some ys =>
      rw [e3] at h2
      obtain ⟨p, vs, rfl, hs', hd⟩ := seq_den p2.1 d2' e
      have ev := strsOf_den hd e3
      subst ev
      refine ⟨z, p, ys, rfl, rfl, hs', Nat.le_trans h2.1 (by decide), ?_⟩
      exact q _ H2 _ m2 h2.2 (p1.trans p2) rfl
end
end AL
set_option maxHeartbeats 1000000
namespace AL
open PySem L2 Evl
structure AEn where
  nx : Sl → Mu → Prop
  rt : D → Mu → Prop
  bk : Sl → Mu → Prop := fun _ _ => False
  ct : Sl → Mu → Prop := fun _ _ => False
abbrev AbS := AEn → Sl → Mu → Prop
structure EndOk (K : PySem.W.Frag) (S1 : Hp) (E : AEn) (D : Ends) : Prop where
  nx : ∀ g m st H, E.nx g m → Rep K H m → Ex S1 (R m H) → Env K (R m H) g st → D.nx st H
  rt : ∀ d m v H, E.rt d m → Rep K H m → Ex S1 (R m H) → Den K (R m H) d v → D.rt v H
  bk : ∀ g m st H, E.bk g m → Rep K H m → Ex S1 (R m H) → Env K (R m H) g st → D.bk st H
  ct : ∀ g m st H, E.ct g m → Rep K H m → Ex S1 (R m H) → Env K (R m H) g st → D.ct st H
def WS (K : PySem.W.Frag) (S0 : Hp) (t : TS) (E : AEn) (g : Sl) (m : Mu) : Prop :=
  ∀ st H S1, Rep K H m → Ex S0 S1 → Ex S1 (R m H) → Env K (R m H) g st → ∀ D : Ends, EndOk K S1 E D → t D st H
structure AS (X : Cx) (S0 : Hp) (st : Stmt) (s : AbS) : Prop where
  ex : ∃ t, PS X st t ∧ ∀ E g m, s E g m → WS X.K S0 t E g m
structure AB (X : Cx) (S0 : Hp) (st : List Stmt) (s : AbS) : Prop where
  ex : ∃ t, PSs X st t ∧ ∀ E g m, s E g m → WS X.K S0 t E g m
section
variable {X : Cx} {S0 : Hp} {a b c e o : Expr} {es : List Expr} {fa fb fc fo fe fi : Ab} {ft fu : AbT} {fs fr : AbA} {pos : Pos} {K : PySem.W.Frag} {st : Stmt} {rest body : List Stmt} {s u : AbS}
theorem EndOk.mono {S1 S2 : Hp} {E : AEn} {D : Ends} (h : EndOk K S1 E D) (e : Ex S1 S2) : EndOk K S2 E D :=
  ⟨fun g m st H a b c d => h.nx g m st H a b (e.trans c) d, fun g m st H a b c d => h.rt g m st H a b (e.trans c) d, fun g m st H a b c d => h.bk g m st H a b (e.trans c) d, fun g m st H a b c d => h.ct g m st H a b (e.trans c) d⟩
def aNext : AbS := fun E g m => E.nx g m
def aSeq (s u : AbS) : AbS := fun E g m => s { E with nx := fun g' m' => u E g' m' } g m
theorem ab_nil : AB X S0 [] aNext := ⟨_, pss_nil, fun E g m h st H S1 rp e0 e1 en D ok => ok.nx g m st H h rp e1 en⟩
theorem ab_one (h : AS X S0 st s) : AB X S0 [st] s := by
  obtain ⟨t, p, q⟩ := h.ex
  exact ⟨t, pss_one p, q⟩
theorem ab_cons (h : AS X S0 st s) (r : AB X S0 rest u) : AB X S0 (st :: rest) (aSeq s u) := by
  obtain ⟨t, p, q⟩ := h.ex
  obtain ⟨t2, p2, q2⟩ := r.ex
  refine ⟨_, pss_cons p p2, fun E g m hs st H S1 rp e0 e1 en D ok => ?_⟩
  refine q _ g m hs st H S1 rp e0 e1 en _ ⟨fun g' m' st' H' hu rp' e1' en' => ?_, ok.rt, ok.bk, ok.ct⟩
  exact q2 E g' m' hu st' H' S1 rp' e0 e1' en' D ok
theorem as_pass : AS X S0 (.Pass pos) aNext := ⟨_, ps_pass, fun E g m h st H S1 rp e0 e1 en D ok => ok.nx g m st H h rp e1 en⟩
def aCont : AbS := fun E g m => E.ct g m
def aBrk : AbS := fun E g m => E.bk g m
theorem as_cont : AS X S0 (.Continue pos) aCont := ⟨_, ps_continue, fun E g m h st H S1 rp e0 e1 en D ok => ok.ct g m st H h rp e1 en⟩
theorem as_brk : AS X S0 (.Break pos) aBrk := ⟨_, ps_break, fun E g m h st H S1 rp e0 e1 en D ok => ok.bk g m st H h rp e1 en⟩
def aSet (i : Nat) (fa : Ab) : AbS := fun E g m => fa g m fun d m1 => E.nx (put g i (some d)) m1
theorem as_set (i : Nat) {x : Str} {p : Pos} (he : AE X S0 e fe) (hN : X.N.Nodup) (hi : X.N[i]? = some x := by rfl) (hx : Loc X.env.scope x := by first | exact .inl rfl | exact .inr rfl)
    (hs : swapsWith e (some (.Name x p)) pos.line X.env = pure false := by rfl) (hf : X.fn x = true ∨ X.env.scope.names.lookup x = some .local := by first | exact .inl rfl | exact .inr rfl | assumption) : AS X S0 (.Assign [.Name x p] e pos) (aSet i fe) := by
  obtain ⟨t, pt, q⟩ := he.ex
  refine ⟨_, ps_set hN hi hx pt hs hf, fun E g m h st H S1 rp e0 e1 en D ok => ?_⟩
  exact q g m _ h st H rp (e0.trans e1) en _ fun v H1 d m1 h1 p1 d1 => ok.nx _ m1 _ H1 h1 p1.1 (e1.trans p1.2) ((en.mono p1.2).put d1)
def aDo (fa : Ab) : AbS := fun E g m => fa g m fun _ m1 => E.nx g m1
theorem as_expr (he : AE X S0 e fe) (hs : swapsWith e none pos.line X.env = pure false := by rfl) : AS X S0 (.Expr e pos) (aDo fe) := by
  obtain ⟨t, pt, q⟩ := he.ex
  refine ⟨_, ps_expr pt hs, fun E g m h st H S1 rp e0 e1 en D ok => ?_⟩
  exact q g m _ h st H rp (e0.trans e1) en _ fun v H1 d m1 h1 p1 d1 => ok.nx _ m1 _ H1 h1 p1.1 (e1.trans p1.2) (en.mono p1.2)
def aRet (fa : Ab) : AbS := fun E g m => fa g m E.rt
theorem as_ret (he : AE X S0 e fe) : AS X S0 (.Return (some e) pos) (aRet fe) := by
  obtain ⟨t, pt, q⟩ := he.ex
  refine ⟨_, ps_ret pt, fun E g m h st H S1 rp e0 e1 en D ok => ?_⟩
  exact q g m _ h st H rp (e0.trans e1) en _ fun v H1 d m1 h1 p1 d1 => ok.rt d m1 v H1 h1 p1.1 (e1.trans p1.2) d1
def aRetN : AbS := fun E g m => E.rt .non m
theorem as_retN : AS X S0 (.Return none pos) aRetN := ⟨_, ps_retN, fun E g m h st H S1 rp e0 e1 en D ok => ok.rt .non m .non H h rp e1 rfl⟩
def aIf (ft : AbT) (s u : AbS) : AbS := fun E g m => ft g m fun b m1 => if b = true then s E g m1 else u E g m1
theorem as_if {l1 l2 : List Stmt} (hc : AT X S0 c ft) (h1 : AB X S0 l1 s) (h2 : AB X S0 l2 u) : AS X S0 (.If c l1 l2 pos) (aIf ft s u) := by
  obtain ⟨t, pt, q⟩ := hc.ex
  obtain ⟨t1, p1, q1⟩ := h1.ex
  obtain ⟨t2, p2, q2⟩ := h2.ex
  refine ⟨_, ps_if pt p1 p2, fun E g m h st H S1 rp e0 e1 en D ok => ?_⟩
  refine q g m _ h st H rp (e0.trans e1) en _ fun b H1 m1 hb po => ?_
  cases b with
  | true =>
    rw [if_pos rfl] at hb ⊢
    exact q1 E g m1 hb st H1 S1 po.1 e0 (e1.trans po.2) (en.mono po.2) D ok
  | false =>
    rw [if_neg (by decide)] at hb ⊢
    exact q2 E g m1 hb st H1 S1 po.1 e0 (e1.trans po.2) (en.mono po.2) D ok
/-- while, by a word and a number that falls -/
def aWhile (ft : AbT) (s : AbS) : AbS := fun E g m => ∃ W : Nat → Sl → Mu → Prop, (∃ n, W n g m) ∧ ∀ n g' m', W n g' m' → ft g' m' fun b m1 =>
  if b = true then s { nx := fun g2 m2 => ∃ n', n' < n ∧ W n' g2 m2, rt := E.rt, bk := E.nx, ct := fun g2 m2 => ∃ n', n' < n ∧ W n' g2 m2 } g' m1 else E.nx g' m1
theorem as_while (hp : PassesOwn (model X.prog X.w) X.A X.env X.xe) (hc : AT X S0 c ft) (hb : AB X S0 body s) : AS X S0 (.While c body [] pos) (aWhile ft s) := by
  obtain ⟨t, pt, q⟩ := hc.ex
  obtain ⟨t1, p1, q1⟩ := hb.ex
  refine ⟨_, ps_while hp pt p1, fun E g m h st H S1 rp e0 e1 en D ok => ?_⟩
  obtain ⟨W, ⟨n0, w0⟩, turn⟩ := h
  refine ⟨fun n st' H' => ∃ g' m', W n g' m' ∧ Rep X.K H' m' ∧ Ex S1 (R m' H') ∧ Env X.K (R m' H') g' st', ⟨n0, g, m, w0, rp, e1, en⟩, fun n st' H' hw => ?_⟩
  obtain ⟨g', m', hw, rp', e1', en'⟩ := hw
  refine q g' m' _ (turn n g' m' hw) st' H' rp' (e0.trans e1') en' _ fun b H1 m1 hb po => ?_
  cases b with
  | true =>
    rw [if_pos rfl] at hb
    refine ⟨fun st2 H2 => ∃ n', n' < n ∧ ∃ g2 m2, W n' g2 m2 ∧ Rep X.K H2 m2 ∧ Ex S1 (R m2 H2) ∧ Env X.K (R m2 H2) g2 st2, fun st2 H2 z => z, ?_⟩
    refine q1 _ g' m1 hb st' H1 S1 po.1 e0 (e1'.trans po.2) (en'.mono po.2) _ ⟨fun g2 m2 st2 H2 ⟨n', hn, hw2⟩ r2 x2 v2 => ⟨n', hn, g2, m2, hw2, r2, x2, v2⟩, ok.rt, fun g2 m2 st2 H2 z r2 x2 v2 => ok.nx g2 m2 st2 H2 z r2 x2 v2, fun g2 m2 st2 H2 ⟨n', hn, hw2⟩ r2 x2 v2 => ⟨n', hn, g2, m2, hw2, r2, x2, v2⟩⟩
  | false =>
    rw [if_neg (by decide)] at hb
    exact ok.nx g' m1 st' H1 hb po.1 (e1'.trans po.2) (en'.mono po.2)
/-! ### targets -/
abbrev AbG := D → Sl → Mu → (Sl → Mu → Prop) → Prop
structure AG (X : Cx) (S0 : Hp) (tg : Expr) (k : AbG) : Prop where
  ex : ∃ t, PG X tg t ∧ ∀ d g m P, k d g m P → ∀ v st H S1, Rep X.K H m → Ex S0 S1 → Ex S1 (R m H) → Env X.K (R m H) g st → Den X.K (R m H) d v → ∀ Q : St → Hp → Prop, (∀ g' m' st' H', P g' m' → Rep X.K H' m' → Ex S1 (R m' H') → Env X.K (R m' H') g' st' → Q st' H') → t v st H Q
structure AGs (X : Cx) (S0 : Hp) (tg : List Expr) (k : List D → Sl → Mu → (Sl → Mu → Prop) → Prop) : Prop where
  ex : ∃ t, PGs X tg t ∧ ∀ ds g m P, k ds g m P → ∀ vs st H S1, Rep X.K H m → Ex S0 S1 → Ex S1 (R m H) → Env X.K (R m H) g st → DenL X.K (R m H) ds vs → ∀ Q : St → Hp → Prop, (∀ g' m' st' H', P g' m' → Rep X.K H' m' → Ex S1 (R m' H') → Env X.K (R m' H') g' st' → Q st' H') → t vs st H Q
def kName (i : Nat) : AbG := fun d g m P => P (put g i (some d)) m
theorem ag_name (i : Nat) {x : Str} (hN : X.N.Nodup) (hi : X.N[i]? = some x := by rfl) (hx : Loc X.env.scope x := by first | exact .inl rfl | exact .inr rfl) (hf : X.fn x = true ∨ X.env.scope.names.lookup x = some .local := by first | exact .inl rfl | exact .inr rfl | assumption) :
    AG X S0 (.Name x pos) (kName i) := ⟨_, pg_name hN hi hx hf, fun d g m P h v st H S1 rp e0 e1 en dv Q q => q _ m _ H h rp e1 (en.put dv)⟩
def kNil : List D → Sl → Mu → (Sl → Mu → Prop) → Prop := fun ds g m P => ds = [] ∧ P g m
def kCons (k : AbG) (r : List D → Sl → Mu → (Sl → Mu → Prop) → Prop) : List D → Sl → Mu → (Sl → Mu → Prop) → Prop := fun ds g m P => match ds with
  | d :: rs => k d g m fun g' m' => r rs g' m' P
  | [] => False
theorem ags_nil : AGs X S0 [] kNil := ⟨_, pgs_nil, fun ds g m P h vs st H S1 rp e0 e1 en dv Q q => by
  obtain ⟨rfl, h⟩ := h
  exact ⟨dv, q g m st H h rp e1 en⟩⟩
theorem ags_cons {kk : AbG} {kr : List D → Sl → Mu → (Sl → Mu → Prop) → Prop} (h1 : AG X S0 e kk) (h2 : AGs X S0 es kr) (hs : (assignEach (e :: es) X.env).map (·.2) = assign e X.env :: (assignEach es X.env).map (·.2) := by rfl) : AGs X S0 (e :: es) (kCons kk kr) := by
  obtain ⟨t1, p1, q1⟩ := h1.ex
  obtain ⟨t2, p2, q2⟩ := h2.ex
  refine ⟨_, pgs_cons p1 p2 hs, fun ds g m P h vs st H S1 rp e0 e1 en dv Q q => ?_⟩
  cases ds with
  | nil => exact (show False from h).elim
  | cons d rs =>
    obtain ⟨v, ws, rfl, dv1, dv2⟩ := dv
    refine ⟨v, ws, rfl, ?_⟩
    refine q1 d g m _ h v st H (R m H) rp (e0.trans e1) (Ex.refl _) en dv1 _ fun g' m' st' H' h' rp' e' en' => ?_
    exact q2 rs g' m' P h' ws st' H' S1 rp' e0 (e1.trans e') en' (DenL.mono e' _ _ dv2) Q q
def kTup (n : Nat) (kr : List D → Sl → Mu → (Sl → Mu → Prop) → Prop) : AbG := fun d g m P => match seqOf m d with
  | some ds => ds.length = n ∧ kr ds g m P
  | none => False
theorem ag_tup {k n : Nat} {kr : List D → Sl → Mu → (Sl → Mu → Prop) → Prop} (hc : X.calm = true) (h : AGs X S0 es kr)
    (hn : (assignEach es X.env).length = n := by rfl) (hst : (assignEach es X.env).findIdx? (·.1) = none := by rfl) : AG X S0 (.Tuple es k pos) (kTup n kr) := by
  obtain ⟨t, p, q⟩ := h.ex
  have p1 : PG X (.Tuple es k pos) (gTup X.K n t) := pg_tup hc p hn hst
  have p2 : PG X (.Tuple es k pos) (gLst X.K n t) := pg_lst hc p hn hst
  refine ⟨fun v st H Q => gTup X.K n t v st H Q ∨ gLst X.K n t v st H Q, ⟨fun pins s st H v u Q I r hw => hw.elim (fun z => p1.run pins s st H v u Q I r z) (fun z => p2.run pins s st H v u Q I r z)⟩, fun d g m P h v st H S1 rp e0 e1 en dv Q q' => ?_⟩
  have h' : (match seqOf m d with
    | some ds => ds.length = n ∧ kr ds g m P
    | none => False) := h
  cases e : seqOf m d with
  | none =>
    rw [e] at h'
    exact h'.elim
  | some ds =>
    rw [e] at h'
    obtain ⟨p3, vs, rfl, hs, hd⟩ := seq_den rp dv e
    rcases hs with hs | hs
    · exact .inr ⟨p3, vs, rfl, hs, hd.len.trans h'.1, q ds g m P h'.2 vs st H S1 rp e0 e1 en hd Q q'⟩
    · exact .inl ⟨p3, vs, rfl, hs, hd.len.trans h'.1, q ds g m P h'.2 vs st H S1 rp e0 e1 en hd Q q'⟩
def aAsg (fa : Ab) (k : AbG) : AbS := fun E g m => fa g m fun d m1 => k d g m1 E.nx
theorem as_asg {tg : Expr} {k : AbG} (he : AE X S0 e fe) (hg : AG X S0 tg k) (hs : swapsWithSole [tg] e pos.line X.env = pure false := by rfl) (hw : swappedStores [tg] e X.env = pure none := by rfl)
    (h1 : (assignEach [tg] X.env).map (·.2) = [assign tg X.env] := by rfl) : AS X S0 (.Assign [tg] e pos) (aAsg fe k) := by
  obtain ⟨t, pt, q⟩ := he.ex
  obtain ⟨tg', pg, qg⟩ := hg.ex
  refine ⟨_, ps_asg pt pg hs hw h1, fun E g m h st H S1 rp e0 e1 en D ok => ?_⟩
  refine q g m _ h st H rp (e0.trans e1) en _ fun v H1 d m1 h1 p1 d1 => ?_
  exact qg d g m1 _ h1 v st H1 S1 p1.1 e0 (e1.trans p1.2) (en.mono p1.2) d1 _ fun g' m' st' H' h' rp' e' en' => ok.nx g' m' st' H' h' rp' e' en'
/-- xs[i] = e, xs a list that may change -/
def fSetIx (x i : D) (d : D) (m : Mu) (P : Mu → Prop) : Prop := match x, i with
  | .box p, .int k => match m p with
    | some (.lst ds) => match ixN ds.length k with
      | some j => P (mset m p (.lst (ds.set j d)))
      | none => False
    | _ => False
  | _, _ => False
theorem setIx_ok {x i d : D} {m : Mu} {P : Mu → Prop} (h : fSetIx x i d m P) {v w z : V} {H : Hp} (rp : Rep K H m) (d1 : Den K (R m H) x v) (d2 : Den K (R m H) i w) (d3 : Den K (R m H) d z) {Q : Hp → Prop} (q : ∀ H' m', P m' → Po K m H m' H' → Q H') : rSetL v w z H Q := by
  match x, i, h with
  | .box p, .int k, h =>
    have h : (match m p with
      | some (.lst ds) => (match ixN ds.length k with
        | some j => P (mset m p (.lst (ds.set j d)))
        | none => False)
      | _ => False) := h
    cases e : m p with
    | none =>
      rw [e] at h
      exact h.elim
    | some o =>
      rw [e] at h
      cases o with
      | ins C dx fs => exact h.elim
      | lst ds =>
        have h : (match ixN ds.length k with
          | some j => P (mset m p (.lst (ds.set j d)))
          | none => False) := h
        cases e2 : ixN ds.length k with
        | none =>
          rw [e2] at h
          exact h.elim
        | some j =>
          rw [e2] at h
          obtain ⟨us, h1, h2⟩ := rp p _ e
          cases d1
          cases d2
          refine ⟨p, us, k, j, rfl, rfl, h1, by rw [h2.len]; exact e2, ?_⟩
          exact q _ _ h (Po.setL rp e (h2.set j d3))
def kSub (fo fi : Ab) : AbG := fun d g m P => fo g m fun x m1 => fi g m1 fun i m2 => fSetIx x i d m2 fun m3 => P g m3
theorem ag_sub {o i : Expr} {fo fi : Ab} (ho : AE X S0 o fo) (hi : AE X S0 i fi)
    (ha : ∀ v, assign (.Subscript o i pos) X.env v = (do
      let ov ← holding [v] (eval o X.env)
      let iv ← holding [v, ov] (eval i X.env)
      standAt pos
      holding [v, ov, iv] (setItem ov iv v)
      release [v, ov, iv] []) := by intro _; rfl) : AG X S0 (.Subscript o i pos) (kSub fo fi) := by
  obtain ⟨to, po, qo⟩ := ho.ex
  obtain ⟨ti, pi, qi⟩ := hi.ex
  refine ⟨_, pg_sub po pi set_list ha, fun d g m P h v st H S1 rp e0 e1 en dv Q q => ?_⟩
  refine qo g m _ h st H rp (e0.trans e1) en _ fun x H1 dx m1 h1 p1 d1 => ?_
  refine qi g m1 _ h1 st H1 p1.1 ((e0.trans e1).trans p1.2) (en.mono p1.2) _ fun y H2 dy m2 h2 p2 d2 => ?_
  have p12 := p1.trans p2
  refine setIx_ok h2 p2.1 (Den.mono p2.2 _ _ d1) d2 (Den.mono p12.2 _ _ dv) fun H3 m3 h3 p3 => ?_
  exact q g m3 st H3 h3 p3.1 (e1.trans (p12.trans p3).2) (en.mono (p12.trans p3).2)
/-- x += e, x -= e, of numbers -/
def aAug (i : Nat) (f : Int → Int → Int) (fa : Ab) : AbS := fun E g m => match nth g i with
  | some (.int x) => fa g m fun d m1 => match d with
    | .int y => E.nx (put g i (some (.int (f x y)))) m1
    | _ => False
  | _ => False
theorem as_aug (i : Nat) {x : Str} {op : Operator} {f : Int → Int → Int} {p' : Pos} (hp : PIp X op (ipI f)) (he : AE X S0 e fe) (hN : X.N.Nodup) (hi : X.N[i]? = some x := by rfl) (hx : Loc X.env.scope x := by first | exact .inl rfl | exact .inr rfl)
    (hf : X.fn x = true ∨ X.env.scope.names.lookup x = some .local := by first | exact .inl rfl | exact .inr rfl | assumption) : AS X S0 (.AugAssign (.Name x p') op e pos) (aAug i f fe) := by
  obtain ⟨t, pt, q⟩ := he.ex
  refine ⟨_, ps_aug hN hi hx pt hp hf, fun E g m h st H S1 rp e0 e1 en D ok => ?_⟩
  have h' : (match nth g i with
    | some (.int x) => fe g m fun d m1 => match d with
      | .int y => E.nx (put g i (some (.int (f x y)))) m1
      | _ => False
    | _ => False) := h
  split at h'
  · rename_i n hn
    obtain ⟨v, h1, h2⟩ := en.nth hn
    cases h2
    refine ⟨.int n, h1, q g m _ h' st H rp (e0.trans e1) en _ fun v H1 d m1 h3 p1 d1 => ?_⟩
    cases d <;> first | exact (show False from h3).elim | skip
    cases d1
    exact ⟨n, _, rfl, rfl, ok.nx _ m1 _ H1 h3 p1.1 (e1.trans p1.2) ((en.mono p1.2).put rfl)⟩
  · exact h'.elim
end
end AL
set_option maxHeartbeats 1000000
namespace AL
open PySem L2 Evl
section
variable {X : Cx} {S0 : Hp} {a b c e o : Expr} {es : List Expr} {fa fb fc fo fe fi : Ab} {ft fu : AbT} {fs fr : AbA} {pos : Pos} {K : PySem.W.Frag} {st : Stmt} {rest body : List Stmt} {s u : AbS}
/-! ### loops -/
/-- over a list or a tuple that stands still -/
def iSq (K : PySem.W.Frag) (tl : TE) : TI := fun st H R => tl st H fun x H1 => ∃ p, x = .ref p ∧ (((∃ xs, SqL K H1 p xs) ∧ R (Itl K p) H1) ∨ ((∃ xs, SqT K H1 p xs) ∧ R (Itt K p) H1))
theorem pi_sq {tg : Expr} {tl : TE} (h : PE X e tl) : PI X tg e (iSq X.K tl) := by
  constructor
  intro pn s0 st H W I0 hw
  apply thn (h.run pn s0 st H _ I0 hw)
  rintro u s1 ⟨x, G, I1, rel, p, ex, hq⟩
  cases ex
  cases rel
  have fr : ∀ b ∈ [s1.heap.objs.size], FpOk X pn G b := by
    intro b hb
    rw [List.mem_singleton.mp hb]
    exact I1.fpOk (Nat.le_refl _) (I1.hok.fresh (Nat.le_refl _))
  have kp : ∀ (n : Obj), L2.Inv X pn st G { s1 with heap := s1.heap.push n, toks := s1.toks } := fun n => I1.kept (t' := s1.toks) fun _ _ z => Heap.get?_push_of_some _ z
  rcases hq with ⟨⟨xs, hx⟩, hR⟩ | ⟨⟨xs, hx⟩, hR⟩
  · obtain ⟨vs, _, pl, _⟩ := I1.list hx
    apply wpAny_pyIter_list pl.isList
    exact ⟨s1.heap.objs.size, [s1.heap.objs.size], _, Itl X.K p, G, rfl, kp _, turn_list p _, ⟨_, Heap.get?_push_size _ rfl, rfl, rfl⟩, fr, hR⟩
  · obtain ⟨vs, _, pl, _⟩ := I1.tuple hx
    apply wpAny_pyIter_tuple (show s1.heap.IsTuple p vs.toArray from pl)
    exact ⟨s1.heap.objs.size, [s1.heap.objs.size], _, Itt X.K p, G, rfl, kp _, turn_tuple p _, ⟨_, Heap.get?_push_size _ rfl, rfl, rfl⟩, fr, hR⟩
def aFor (fa : Ab) (k : AbG) (s : AbS) : AbS := fun E g m => fa g m fun d m1 => ∃ ds, seqOf m1 d = some ds ∧ ∃ Pv : Nat → Sl → Mu → Prop, Pv 0 g m1 ∧ (∀ i g' m', i ≤ ds.length → Pv i g' m' → seqOf m' d = some ds) ∧
  (∀ i x g' m', ds[i]? = some x → Pv i g' m' → k x g' m' fun g2 m2 => s { nx := Pv (i + 1), rt := E.rt, bk := E.nx, ct := Pv (i + 1) } g2 m2) ∧ ∀ g' m', Pv ds.length g' m' → E.nx g' m'
/-- an evaluation, told with the very heap it ends at (the same value by both ways of reading it) -/
theorem den_seq {m : Mu} {H : Hp} {d : D} {v : V} {ds : List D} {p : Addr} (r : Rep K H m) (h : Den K (R m H) d v) (hv : v = .ref p) (e : seqOf m d = some ds) :
    ∃ vs, (SqL K H p vs ∨ SqT K H p vs) ∧ DenL K (R m H) ds vs := by
  obtain ⟨q, vs, h1, h2, h3⟩ := seq_den r h e
  rw [hv] at h1
  cases h1
  exact ⟨vs, h2, h3⟩
theorem Den.refd {S : Hp} {d : D} {m : Mu} {v : V} {ds : List D} (h : Den K S d v) (e : seqOf m d = some ds) : ∃ p, v = .ref p := by
  cases d <;> first | cases e | skip
  · exact ⟨_, h⟩
  · obtain ⟨p, _, h1, _⟩ := h
    exact ⟨p, h1⟩
  · obtain ⟨p, _, h1, _⟩ := h
    exact ⟨p, h1⟩
  · obtain ⟨p, h1, _⟩ := h
    exact ⟨p, h1⟩
/-- a list's or a tuple's kind does not change by its data -/
def isTup : D → Bool
  | .tup _ => true
  | _ => false
theorem seq_kind {m : Mu} {H : Hp} {d : D} {p : Addr} {ds : List D} (r : Rep K H m) (h : Den K (R m H) d (.ref p)) (e : seqOf m d = some ds) :
    ∃ vs, DenL K (R m H) ds vs ∧ (if isTup d = true then SqT K H p vs else SqL K H p vs) := by
  have up : Ex (R m H) H := fun a o q => (R_of q).2
  cases d with
  | tup es =>
    cases e
    obtain ⟨q, vs, h1, h2, h3⟩ := h
    cases h1
    exact ⟨vs, h3, ex_t up h2⟩
  | lst es =>
    cases e
    obtain ⟨q, vs, h1, h2, h3⟩ := h
    cases h1
    exact ⟨vs, h3, sq_of (R_of h2).2⟩
  | box q =>
    obtain ⟨a', vs, h1, h2, h3⟩ := lst_den r h (show lstOf m (.box q) = some ds from e)
    cases h1
    exact ⟨vs, h3, sq_of h2⟩
  | scr ns =>
    cases e
    obtain ⟨q, h1, h2⟩ := h
    cases h1
    exact ⟨_, DenL.ints ns, ex_l up h2⟩
  | _ => cases e
theorem as_for {tg : Expr} {k : AbG} (hp : PassesOwn (model X.prog X.w) X.A X.env X.xe) (hc : X.calm = true) (he : AE X S0 e fe) (hg : AG X S0 tg k) (hb : AB X S0 body s)
    (hs : ∀ x, foldedSetIterable e X.env x = pure x := by intro _; rfl) : AS X S0 (.For tg e body [] pos) (aFor fe k s) := by
  obtain ⟨te, pe, qe⟩ := he.ex
  obtain ⟨tk, pk, qk⟩ := hg.ex
  obtain ⟨tb, pb, qb⟩ := hb.ex
  refine ⟨_, ps_for hp hc (pi_sq (tg := tg) pe) pk pb hs, fun E g m h st H S1 rp e0 e1 en D ok => ?_⟩
  refine qe g m _ h st H rp (e0.trans e1) en _ fun v H1 d m1 h1 p1 d1 => ?_
  obtain ⟨ds, eds, Pv, hp0, hstay, hturn, hend⟩ := h1
  obtain ⟨p, rfl⟩ := d1.refd eds
  obtain ⟨vs0, dv0, k0⟩ := seq_kind p1.1 d1 eds
  have up : ∀ {m2 : Mu} {H2 : Hp}, Ex (R m1 H1) (R m2 H2) → Ex S1 (R m2 H2) := fun z => (e1.trans p1.2).trans z
  -- the state between two turns
  let Qv : Nat → L2.St → Hp → Prop := fun i st' H' => ∃ g' m', Pv i g' m' ∧ Rep X.K H' m' ∧ Ex (R m1 H1) (R m' H') ∧ Env X.K (R m' H') g' st'
  have q0 : Qv 0 st H1 := ⟨g, m1, hp0, p1.1, Ex.refl _, en.mono p1.2⟩
  have okm := ok.mono (e1.trans p1.2)
  have e01 : Ex S0 (R m1 H1) := (e0.trans e1).trans p1.2
  have here : ∀ i g' m' H', i ≤ ds.length → Pv i g' m' → Rep X.K H' m' → Ex (R m1 H1) (R m' H') → ∃ vs, DenL X.K (R m' H') ds vs ∧ (if isTup d = true then SqT X.K H' p vs else SqL X.K H' p vs) :=
    fun i g' m' H' hi hv r x => seq_kind r (Den.mono x _ _ d1) (hstay i g' m' hi hv)
  have turn : ∀ i st' H' g' m' y, ds[i]? = some y → Pv i g' m' → Rep X.K H' m' → Ex (R m1 H1) (R m' H') → Env X.K (R m' H') g' st' → ∀ x, Den X.K (R m' H') y x →
      tk x st' H' fun st2 H2 => tb { D with nx := Qv (i + 1), ct := Qv (i + 1), bk := D.nx } st2 H2 := by
    intro i st' H' g' m' y hy hv r x en' z dz
    refine qk y g' m' _ (hturn i y g' m' hy hv) z st' H' (R m1 H1) r e01 x en' dz _ fun g2 m2 st2 H2 h2 r2 x2 en2 => ?_
    exact qb _ g2 m2 h2 st2 H2 (R m1 H1) r2 e01 x2 en2 _ ⟨fun g3 m3 st3 H3 z3 r3 x3 v3 => ⟨g3, m3, z3, r3, x3, v3⟩, okm.rt, okm.nx, fun g3 m3 st3 H3 z3 r3 x3 v3 => ⟨g3, m3, z3, r3, x3, v3⟩⟩
  refine ⟨p, rfl, ?_⟩
  cases kd : isTup d with
  | false =>
    rw [kd] at k0
    rw [if_neg (by decide)] at k0
    refine .inl ⟨⟨vs0, k0⟩, fun i n st' H' => n = ds.length - i ∧ i ≤ ds.length ∧ Qv i st' H', ⟨ds.length, by simp, Nat.zero_le _, q0⟩, ?_⟩
    rintro i n st' H' ⟨rfl, hi, g', m', hv, r, x, en'⟩
    obtain ⟨vs, dv, kv⟩ := here i g' m' H' hi hv r x
    rw [kd, if_neg (by decide)] at kv
    by_cases hlt : i < ds.length
    · refine .inr ⟨⟨vs, vs[i]'(by rw [dv.len]; exact hlt), kv, by simp⟩, Qv (i + 1), fun st2 H2 h2 => ⟨ds.length - (i + 1), by omega, rfl, hlt, h2⟩, fun z H2 hy => ?_⟩
      obtain ⟨rfl, hy⟩ := hy
      obtain ⟨y, hy1, hy2⟩ := dv.getV (hy vs kv)
      exact turn i st' _ g' m' y hy1 hv r x en' z hy2
    · have : i = ds.length := by omega
      subst this
      exact .inl ⟨⟨vs, kv, by rw [dv.len]; exact Nat.le_refl _⟩, okm.nx g' m' st' H' (hend g' m' hv) r x en'⟩
  | true =>
    rw [kd] at k0
    rw [if_pos rfl] at k0
    refine .inr ⟨⟨vs0, k0⟩, fun i n st' H' => n = ds.length - i ∧ i ≤ ds.length ∧ Qv i st' H', ⟨ds.length, by simp, Nat.zero_le _, q0⟩, ?_⟩
    rintro i n st' H' ⟨rfl, hi, g', m', hv, r, x, en'⟩
    obtain ⟨vs, dv, kv⟩ := here i g' m' H' hi hv r x
    rw [kd, if_pos rfl] at kv
    by_cases hlt : i < ds.length
    · refine .inr ⟨⟨vs, vs[i]'(by rw [dv.len]; exact hlt), kv, by simp⟩, Qv (i + 1), fun st2 H2 h2 => ⟨ds.length - (i + 1), by omega, rfl, hlt, h2⟩, fun z H2 hy => ?_⟩
      obtain ⟨rfl, hy⟩ := hy
      obtain ⟨y, hy1, hy2⟩ := dv.getV (hy vs kv)
      exact turn i st' _ g' m' y hy1 hv r x en' z hy2
    · have : i = ds.length := by omega
      subst this
      exact .inl ⟨⟨vs, kv, by rw [dv.len]; exact Nat.le_refl _⟩, okm.nx g' m' st' H' (hend g' m' hv) r x en'⟩
/-- over range(n), range(lo, n) -/
def aForR (lo : Bool) (fs : AbA) (i : Nat) (s : AbS) : AbS := fun E g m => fs g m fun ds m1 => ∃ l n : Int, ds = (if lo then [.int l, .int n] else [.int n]) ∧ (lo = false → l = 0) ∧ (-100000 ≤ l ∧ l ≤ 100000 ∧ -100000 ≤ n ∧ n ≤ 1000000) ∧ ∃ Pv : Nat → Sl → Mu → Prop, Pv 0 g m1 ∧
  (∀ (k : Nat) g' m', l + (k : Int) < n → Pv k g' m' → s { nx := Pv (k + 1), rt := E.rt, bk := E.nx, ct := Pv (k + 1) } (put g' i (some (.int (l + (k : Int))))) m') ∧ ∀ g' m', Pv (n - l).toNat g' m' → E.nx g' m'
theorem for_rng {E : AEn} {g : Sl} {m1 : Mu} {H1 S1 : Hp} {D : Ends} {tb : TS} {st : L2.St} {i : Nat} {l n : Int} {Pv : Nat → Sl → Mu → Prop} (qb : ∀ E g m, s E g m → WS X.K S0 tb E g m) (e0 : Ex S0 S1) (rp : Rep X.K H1 m1) (e1 : Ex S1 (R m1 H1)) (en : Env X.K (R m1 H1) g st) (ok : EndOk X.K S1 E D)
    (hp0 : Pv 0 g m1) (hturn : ∀ (k : Nat) g' m', l + (k : Int) < n → Pv k g' m' → s { nx := Pv (k + 1), rt := E.rt, bk := E.nx, ct := Pv (k + 1) } (put g' i (some (.int (l + (k : Int))))) m') (hend : ∀ g' m', Pv (n - l).toNat g' m' → E.nx g' m') :
    ∃ W : Nat → Nat → L2.St → Hp → Prop, (∃ m, W 0 m st H1) ∧ ∀ k m st' H', W k m st' H' →
      ((Itr l (n - l).toNat).stop k H' ∧ D.nx st' H') ∨ ((Itr l (n - l).toNat).go k H' ∧ ∃ N : L2.St → Hp → Prop, (∀ st2 H2, N st2 H2 → ∃ m', m' < m ∧ W (k + 1) m' st2 H2) ∧ ∀ x H2, (Itr l (n - l).toNat).yld k H' x H2 → gName i x st' H2 fun st2 H2 => tb { D with nx := N, ct := N, bk := D.nx } st2 H2) := by
  let Qv : Nat → L2.St → Hp → Prop := fun k st' H' => ∃ g' m', Pv k g' m' ∧ Rep X.K H' m' ∧ Ex S1 (R m' H') ∧ Env X.K (R m' H') g' st'
  refine for_range (lo := l) (n := (n - l).toNat) Qv ⟨g, m1, hp0, rp, e1, en⟩ (fun k st' H' hk ⟨g', m', hv, r, x, en'⟩ => ?_) fun st' H' ⟨g', m', hv, r, x, en'⟩ => ok.nx g' m' st' H' (hend g' m' hv) r x en'
  exact qb _ _ m' (hturn k g' m' (by omega) hv) _ H' S1 r e0 x (en'.put rfl) _ ⟨fun g3 m3 st3 H3 z3 r3 x3 v3 => ⟨g3, m3, z3, r3, x3, v3⟩, ok.rt, ok.nx, fun g3 m3 st3 H3 z3 r3 x3 v3 => ⟨g3, m3, z3, r3, x3, v3⟩⟩
theorem as_forR1 (i : Nat) {x : Str} {p1 p2 pr : Pos} (hp : PassesOwn (model X.prog X.w) X.A X.env X.xe) (hc : X.calm = true) (hm : X.mg "range" = none) (ha : AA X S0 [a] fs) (hN : X.N.Nodup) (hb : AB X S0 body s)
    (hg : Gl X "range" := by rfl) (hi : X.N[i]? = some x := by rfl) (hx : Loc X.env.scope x := by first | exact .inl rfl | exact .inr rfl) (hf : X.fn x = true ∨ X.env.scope.names.lookup x = some .local := by first | exact .inl rfl | exact .inr rfl | assumption) (hs1 : starEach [a] X.env = [(false, eval a X.env)] := by rfl)
    (hs : ∀ y, foldedSetIterable (.Call (.Name "range" pr) [a] [] p2) X.env y = pure y := by intro _; rfl) : AS X S0 (.For (.Name x p1) (.Call (.Name "range" pr) [a] [] p2) body [] pos) (aForR false fs i s) := by
  obtain ⟨ta, pa, qa⟩ := ha.ex
  obtain ⟨tb, pb, qb⟩ := hb.ex
  refine ⟨_, ps_for hp hc (pi_range1 hg hm pa hs1) (pg_name hN hi hx hf) pb hs, fun E g m h st H S1 rp e0 e1 en D ok => ?_⟩
  refine qa g m _ h st H rp (e0.trans e1) en _ fun vs H1 ds m1 h1 po d1 => ?_
  obtain ⟨l, n, rfl, hl, hz, Pv, hp0, hturn, hend⟩ := h1
  cases hl rfl
  obtain ⟨v, rfl, dv⟩ := den1 d1
  cases dv
  refine ⟨n, rfl, by omega, by omega, ?_⟩
  have e : n.toNat = (n - 0).toNat := by omega
  rw [e]
  exact for_rng qb e0 po.1 (e1.trans po.2) (en.mono po.2) ok hp0 hturn hend
theorem as_forR2 (i : Nat) {x : Str} {p1 p2 pr : Pos} (hp : PassesOwn (model X.prog X.w) X.A X.env X.xe) (hc : X.calm = true) (hm : X.mg "range" = none) (ha : AA X S0 [a, b] fs) (hN : X.N.Nodup) (hb : AB X S0 body s)
    (hg : Gl X "range" := by rfl) (hi : X.N[i]? = some x := by rfl) (hx : Loc X.env.scope x := by first | exact .inl rfl | exact .inr rfl) (hf : X.fn x = true ∨ X.env.scope.names.lookup x = some .local := by first | exact .inl rfl | exact .inr rfl | assumption) (hs1 : starEach [a, b] X.env = [(false, eval a X.env), (false, eval b X.env)] := by rfl) (hs2 : starEach [b] X.env = [(false, eval b X.env)] := by rfl)
    (hs : ∀ y, foldedSetIterable (.Call (.Name "range" pr) [a, b] [] p2) X.env y = pure y := by intro _; rfl) : AS X S0 (.For (.Name x p1) (.Call (.Name "range" pr) [a, b] [] p2) body [] pos) (aForR true fs i s) := by
  obtain ⟨ta, pa, qa⟩ := ha.ex
  obtain ⟨tb, pb, qb⟩ := hb.ex
  refine ⟨_, ps_for hp hc (pi_range2 hg hm pa hs1 hs2) (pg_name hN hi hx hf) pb hs, fun E g m h st H S1 rp e0 e1 en D ok => ?_⟩
  refine qa g m _ h st H rp (e0.trans e1) en _ fun vs H1 ds m1 h1 po d1 => ?_
  obtain ⟨l, n, rfl, hl, hz, Pv, hp0, hturn, hend⟩ := h1
  obtain ⟨v, w, rfl, dv, dw⟩ := den2 d1
  cases dv
  cases dw
  refine ⟨l, n, rfl, ⟨by omega, by omega, by omega, by omega⟩, ?_⟩
  exact for_rng qb e0 po.1 (e1.trans po.2) (en.mono po.2) ok hp0 hturn hend
end
end AL
set_option maxHeartbeats 1000000
namespace AL
open PySem L2 Evl
section
variable {X : Cx} {S0 : Hp} {a b c e o elt : Expr} {es ifs : List Expr} {fa fb fc fo fe fi : Ab} {ft fu : AbT} {fs fr : AbA} {pos : Pos} {K : PySem.W.Frag} {scope : Scope} {own : List (Str × Nat)}
/-! ### comprehensions -/
def wipeD (g : Sl) : List Nat → Sl
  | [] => g
  | v :: vs => put (wipeD g vs) v none
theorem env_wipe {S : Hp} {g : Sl} {st : L2.St} (h : Env K S g st) : ∀ vs : List Nat, Env K S (wipeD g vs) (wipe st vs)
  | [] => h
  | v :: vs => (env_wipe h vs).gone
/-- every block that the comprehension may run in -/
abbrev AllB (X : Cx) (scope : Scope) (p : Cx → Prop) : Prop := ∀ (s : Shared) (H : Hp) (C : Addr) (cl : List (Str × Addr)) (fp : List Addr), p (X.blk s H scope (compEnvC scope cl C X.env) fp)
theorem all_ae (h : AllB X scope fun Y => AE Y S0 e fe) : ∃ t, (AllB X scope fun Y => PE Y e t) ∧ ∀ g m P, fe g m P → WX X.K S0 t g m P := by
  refine ⟨fun st H Q => ∀ s H' C cl fp, (Classical.choose (h s H' C cl fp).ex) st H Q, fun s H' C cl fp => ⟨fun pins s' st H Q I hw => (Classical.choose_spec (h s H' C cl fp).ex).1.run pins s' st H Q I (hw s H' C cl fp)⟩, fun g m P ha st H rp e0 en Q q s H' C cl fp => ?_⟩
  exact (Classical.choose_spec (h s H' C cl fp).ex).2 g m P ha st H rp e0 en Q q
theorem all_at (h : AllB X scope fun Y => AT Y S0 e ft) : ∃ t, (AllB X scope fun Y => PT Y e t) ∧ ∀ g m P, ft g m P → WT X.K S0 t g m P := by
  refine ⟨fun st H Q => ∀ s H' C cl fp, (Classical.choose (h s H' C cl fp).ex) st H Q, fun s H' C cl fp => ⟨fun pins s' st H Q I hw => (Classical.choose_spec (h s H' C cl fp).ex).1.run pins s' st H Q I (hw s H' C cl fp)⟩, fun g m P ha st H rp e0 en Q q s H' C cl fp => ?_⟩
  exact (Classical.choose_spec (h s H' C cl fp).ex).2 g m P ha st H rp e0 en Q q
/-- the tests of a comprehension: none or one -/
structure ATs (X : Cx) (S0 : Hp) (scope : Scope) (ifs : List Expr) (f : AbT) : Prop where
  ex : ∃ t, (AllB X scope fun Y => PTs Y ifs t) ∧ ∀ g m P, f g m P → WT X.K S0 t g m P
def aYes : AbT := fun _ m P => P true m
theorem ats_nil : ATs X S0 scope [] aYes := ⟨_, fun _ _ _ _ _ => pts_nil, fun g m P h st H rp e0 en Q q => q true H m h (Po.refl rp)⟩
theorem ats_one (h : AllB X scope fun Y => AT Y S0 c ft) : ATs X S0 scope [c] ft := by
  obtain ⟨t, p, q⟩ := all_at h
  exact ⟨t, fun s H C cl fp => pts_one (p s H C cl fp), q⟩
/-- a comprehension's target: a name, or names in a tuple -/
structure ACg (X : Cx) (S0 : Hp) (scope : Scope) (vs : List Nat) (tg : Expr) (k : AbG) : Prop where
  ex : ∃ t, (AllB X scope fun Y => PG Y tg t) ∧ ∀ d g m P, k d (wipeD g vs) m P → ∀ v st H, Rep X.K H m → Env X.K (R m H) g st → Den X.K (R m H) d v →
    ∀ Q : L2.St → Hp → Prop, (∀ g' st', P g' m → wipe st' vs = wipe st vs → Env X.K (R m H) g' st' → Q st' H) → t v (wipe st vs) H Q
theorem set_wipe {st : L2.St} {x : Option V} {j : Nat} : ∀ {vs : List Nat}, j ∈ vs → wipe (st.set j x) vs = wipe st vs
  | v :: vs, h => by
    unfold wipe
    by_cases hj : j ∈ vs
    · rw [set_wipe hj]
    · have e : j = v := by
        rcases List.mem_cons.mp h with z | z
        · exact z
        · exact (hj z).elim
      subst e
      have gen : ∀ ws : List Nat, j ∉ ws → wipe (st.set j x) ws = (wipe st ws).set j x := by
        intro ws
        induction ws with
        | nil =>
          intro _
          rfl
        | cons w ws ih =>
          intro hw
          unfold wipe
          rw [ih (fun z => hw (List.mem_cons_of_mem _ z)), List.set_comm _ _ (fun z => hw (by rw [z]; exact List.mem_cons_self))]
      rw [gen vs hj, List.set_set]
theorem wipe_wipe {st : L2.St} : ∀ {vs ws : List Nat}, (∀ j ∈ vs, j ∈ ws) → wipe (wipe st vs) ws = wipe st ws
  | [], _, _ => rfl
  | v :: vs, ws, h => by
    show wipe ((wipe st vs).set v none) ws = wipe st ws
    rw [set_wipe (h v List.mem_cons_self), wipe_wipe fun j hj => h j (List.mem_cons_of_mem _ hj)]
theorem acg_name {vs : List Nat} (j : Nat) {x : Str} {px : Pos} (hv : j ∈ vs) (h : AllB X scope fun Y => PG Y (.Name x px) (gName j)) : ACg X S0 scope vs (.Name x px) (kName j) := by
  refine ⟨_, h, fun d g m P hk v st H rp en dv Q q => ?_⟩
  exact q _ _ hk (by rw [set_wipe hv, wipe_wipe fun _ z => z]) ((env_wipe en vs).put dv)
/-- two names -/
def kTwo (i j : Nat) : AbG := fun d g m P => match seqOf m d with
  | some [x, y] => P (put (put g i (some x)) j (some y)) m
  | _ => False
theorem acg_two {vs : List Nat} (i j : Nat) {e1 e2 : Expr} {k : Nat} (hi : i ∈ vs) (hj : j ∈ vs) (h1 : AllB X scope fun Y => PG Y (.Tuple [e1, e2] k pos) (gTup X.K 2 (gCons (gName i) (gCons (gName j) gNil))))
    (h2 : AllB X scope fun Y => PG Y (.Tuple [e1, e2] k pos) (gLst X.K 2 (gCons (gName i) (gCons (gName j) gNil)))) : ACg X S0 scope vs (.Tuple [e1, e2] k pos) (kTwo i j) := by
  refine ⟨fun v st H Q => gTup X.K 2 (gCons (gName i) (gCons (gName j) gNil)) v st H Q ∨ gLst X.K 2 (gCons (gName i) (gCons (gName j) gNil)) v st H Q,
    fun s H C cl fp => ⟨fun pins s' st H' v u Q I r hw => hw.elim (fun z => (h1 s H C cl fp).run pins s' st H' v u Q I r z) (fun z => (h2 s H C cl fp).run pins s' st H' v u Q I r z)⟩, fun d g m P hk v st H rp en dv Q q => ?_⟩
  have hk' : (match seqOf m d with
    | some [x, y] => P (put (put (wipeD g vs) i (some x)) j (some y)) m
    | _ => False) := hk
  split at hk'
  · rename_i x y e
    obtain ⟨p, ws, rfl, hs, hd⟩ := seq_den rp dv e
    obtain ⟨v1, v2, rfl, d1, d2⟩ := den2 hd
    have fin : Q (((wipe st vs).set i (some v1)).set j (some v2)) H := q _ _ hk' (by rw [set_wipe hj, set_wipe hi, wipe_wipe fun _ z => z]) (((env_wipe en vs).put d1).put d2)
    rcases hs with hs | hs
    · exact .inr ⟨p, _, rfl, hs, rfl, v1, [v2], rfl, v2, [], rfl, rfl, fin⟩
    · exact .inl ⟨p, _, rfl, hs, rfl, v1, [v2], rfl, v2, [], rfl, rfl, fin⟩
  · exact hk'.elim
/-- what a comprehension's turns are to do: P at each end -/
def lcTurns (n : Nat) (item : Nat → D) (ok : Mu → Prop) (g : Sl) (vs : List Nat) (k : AbG) (ft : AbT) (fe : Ab) (p : Addr) (Pv : Nat → List D → Mu → Prop) : Prop :=
  (∀ i acc m, i ≤ n → Pv i acc m → ok m ∧ m p = some (.lst acc) ∧ acc.length < 100000) ∧
  ∀ i acc m, i < n → Pv i acc m → k (item i) (wipeD g vs) m fun g2 m2 => ft g2 m2 fun b m3 =>
    if b = true then fe g2 m3 fun y m4 => m4 p = some (.lst acc) ∧ Pv (i + 1) (acc ++ [y]) (mset m4 p (.lst (acc ++ [y]))) else Pv (i + 1) acc m3
def aLc (fro : Bool) (fa : Ab) (vs : List Nat) (k : AbG) (ft : AbT) (fe : Ab) : Ab := fun g m P => fa g m fun d m1 => ∃ ds, seqOf m1 d = some ds ∧ ∀ p, m1 p = none → ∃ Pv : Nat → List D → Mu → Prop, Pv 0 [] (mset m1 p (.lst [])) ∧
  lcTurns ds.length (fun i => ds.getD i .non) (fun m' => seqOf m' d = some ds) g vs k ft fe p Pv ∧ ∀ acc m', Pv ds.length acc m' → if fro = true then P (.lst acc) (mdel m' p) else P (.box p) m'
def aLcR (fro : Bool) (fs : AbA) (vs : List Nat) (k : AbG) (ft : AbT) (fe : Ab) : Ab := fun g m P => fs g m fun ds m1 => match ds with
  | [.int n] => n ≤ 100000 ∧ -100000 ≤ n ∧ ∀ p, m1 p = none → ∃ Pv : Nat → List D → Mu → Prop, Pv 0 [] (mset m1 p (.lst [])) ∧
    lcTurns n.toNat (fun i => .int i) (fun _ => True) g vs k ft fe p Pv ∧ ∀ acc m', Pv n.toNat acc m' → if fro = true then P (.lst acc) (mdel m' p) else P (.box p) m'
  | _ => False
theorem lc_gen {fro : Bool} {J : It} {n : Nat} {item : Nat → D} {okm : Mu → Prop} {g : Sl} {vs : List Nat} {k : AbG} {m1 : Mu} {H1 : Hp} {st : L2.St} {tg : TG} {tt : TT} {te : TE} {P : PD} {Q : VK}
    (rp : Rep K H1 m1) (e0 : Ex S0 (R m1 H1)) (en : Env K (R m1 H1) g st) (qg : ∀ d g m P, k d (wipeD g vs) m P → ∀ v st H, Rep K H m → Env K (R m H) g st → Den K (R m H) d v →
      ∀ Q : L2.St → Hp → Prop, (∀ g' st', P g' m → wipe st' vs = wipe st vs → Env K (R m H) g' st' → Q st' H) → tg v (wipe st vs) H Q)
    (qt : ∀ g m P, ft g m P → WT K S0 tt g m P) (qe : ∀ g m P, fe g m P → WX K S0 te g m P)
    (hJ : ∀ i m' H', i ≤ n → okm m' → Rep K H' m' → Ex (R m1 H1) (R m' H') → (i = n → J.stop i H') ∧ (i < n → J.go i H') ∧ ∀ x H2, i < n → J.yld i H' x H2 → H2 = H' ∧ Den K (R m' H') (item i) x)
    (h : ∀ p, m1 p = none → ∃ Pv : Nat → List D → Mu → Prop, Pv 0 [] (mset m1 p (.lst [])) ∧ lcTurns n item okm g vs k ft fe p Pv ∧ ∀ acc m', Pv n acc m' → if fro = true then P (.lst acc) (mdel m' p) else P (.box p) m')
    (q : ∀ v H' d m', P d m' → Po K m1 H1 m' H' → Den K (R m' H') d v → Q v H') :
    ∀ Dl, H1 Dl = none → ∃ W : Nat → Nat → Hp → Prop, (∃ m, W 0 m (upd H1 Dl (.lst []))) ∧ ∀ i m H, W i m H → (J.stop i H ∧ Q (.ref Dl) H) ∨ (J.go i H ∧ ∃ Nx : Hp → Prop, (∀ H', Nx H' → ∃ m', m' < m ∧ W (i + 1) m' H') ∧
      ∀ x H', J.yld i H x H' → tg x (wipe st vs) H' fun s2 H2 => wipe s2 vs = wipe st vs ∧ tt s2 H2 fun b H3 =>
        if b = true then te s2 H3 fun y H4 => ∃ acc, H4 Dl = some (.lst acc) ∧ acc.length < sizeLine ∧ Nx (upd H4 Dl (.lst (acc ++ [y]))) else Nx H3) := by
  intro Dl hD
  obtain ⟨Pv, h0, ⟨hst, htn⟩, hend⟩ := h Dl (rp.fresh hD)
  let Qv : Nat → Hp → Prop := fun i H' => ∃ acc m', Pv i acc m' ∧ Po K m1 H1 m' H'
  refine ⟨fun i w H' => w = n - i ∧ i ≤ n ∧ Qv i H', ⟨n, by simp, Nat.zero_le _, [], _, h0, Po.newL rp hD rfl⟩, ?_⟩
  rintro i w H' ⟨rfl, hi, acc, m', hv, po⟩
  obtain ⟨hok, hacc, hlen⟩ := hst i acc m' hi hv
  obtain ⟨j1, j2, j3⟩ := hJ i m' H' hi hok po.1 po.2
  by_cases hlt : i < n
  · refine .inr ⟨j2 hlt, Qv (i + 1), fun H2 h2 => ⟨n - (i + 1), by omega, rfl, hlt, h2⟩, fun x H2 hy => ?_⟩
    obtain ⟨rfl, dx⟩ := j3 x H2 hlt hy
    refine qg _ g m' _ (htn i acc m' hlt hv) x st _ po.1 (en.mono po.2) dx _ fun g2 s2 h2 hw en2 => ⟨hw, ?_⟩
    refine qt g2 m' _ h2 s2 _ po.1 (e0.trans po.2) en2 _ fun b H3 m3 h3 p3 => ?_
    cases b with
    | false =>
      rw [if_neg (by decide)] at h3 ⊢
      exact ⟨acc, m3, h3, po.trans p3⟩
    | true =>
      rw [if_pos rfl] at h3 ⊢
      refine qe g2 m3 _ h3 s2 H3 p3.1 ((e0.trans po.2).trans p3.2) (en2.mono p3.2) _ fun y H4 d m4 h4 p4 dy => ?_
      obtain ⟨us, hu, du⟩ := p4.1 Dl _ h4.1
      refine ⟨us, hu, sz_lt (by rw [du.len]; exact hlen), acc ++ [d], _, h4.2, (po.trans (p3.trans p4)).trans (Po.setL p4.1 h4.1 (du.app (DenL.one dy)))⟩
  · have : i = n := by omega
    subst this
    refine .inl ⟨j1 rfl, ?_⟩
    have hf := hend acc m' hv
    cases fro with
    | true =>
      rw [if_pos rfl] at hf
      exact q _ H' _ _ hf (po.trans (Po.del po.1)) (den_frozen po.1 hacc)
    | false =>
      rw [if_neg (by decide)] at hf
      exact q _ H' _ _ hf po rfl
theorem lc_sound (fro : Bool) {vs : List Nat} {k : AbG} {ta te : TE} {tg' : TG} {tt : TT} (qa : ∀ g m P, fa g m P → WX X.K S0 ta g m P) (qg : ∀ d g m P, k d (wipeD g vs) m P → ∀ v st H, Rep X.K H m → Env X.K (R m H) g st → Den X.K (R m H) d v →
      ∀ Q : L2.St → Hp → Prop, (∀ g' st', P g' m → wipe st' vs = wipe st vs → Env X.K (R m H) g' st' → Q st' H) → tg' v (wipe st vs) H Q)
    (qt : ∀ g m P, ft g m P → WT X.K S0 tt g m P) (qe : ∀ g m P, fe g m P → WX X.K S0 te g m P) : ∀ g m P, aLc fro fa vs k ft fe g m P → WX X.K S0 (tLc (iSq X.K ta) tg' tt te vs) g m P := by
  intro g m P h st H rp e0 en Q q
  refine qa g m _ h st H rp e0 en _ fun v H1 d m1 h1 p1 d1 => ?_
  obtain ⟨ds, eds, h1⟩ := h1
  obtain ⟨p, rfl⟩ := d1.refd eds
  obtain ⟨vs0, dv0, k0⟩ := seq_kind p1.1 d1 eds
  refine ⟨p, rfl, ?_⟩
  have item : ∀ (i : Nat) (y : D), ds[i]? = some y → ds.getD i .non = y := fun i y z => by
    rw [List.getD_eq_getElem?_getD, z]
    rfl
  cases kd : isTup d with
  | false =>
    rw [kd, if_neg (by decide)] at k0
    refine .inl ⟨⟨vs0, k0⟩, lc_gen (n := ds.length) p1.1 (e0.trans p1.2) (en.mono p1.2) qg qt qe (fun i m' H' hi hok r x => ?_) h1 fun v H' d' m' hp po dv => q v H' d' m' hp (p1.trans po) dv⟩
    obtain ⟨vs, dv, kv⟩ := seq_kind r (Den.mono x _ _ d1) hok
    rw [kd, if_neg (by decide)] at kv
    refine ⟨fun z => ⟨vs, kv, by rw [dv.len, z]; exact Nat.le_refl _⟩, fun z => ⟨vs, vs[i]'(by rw [dv.len]; exact z), kv, by simp⟩, fun y H2 z hy => ?_⟩
    obtain ⟨rfl, hy⟩ := hy
    obtain ⟨w, hw, dw⟩ := dv.getV (hy vs kv)
    rw [item i w hw]
    exact ⟨rfl, dw⟩
  | true =>
    rw [kd, if_pos rfl] at k0
    refine .inr ⟨⟨vs0, k0⟩, lc_gen (n := ds.length) p1.1 (e0.trans p1.2) (en.mono p1.2) qg qt qe (fun i m' H' hi hok r x => ?_) h1 fun v H' d' m' hp po dv => q v H' d' m' hp (p1.trans po) dv⟩
    obtain ⟨vs, dv, kv⟩ := seq_kind r (Den.mono x _ _ d1) hok
    rw [kd, if_pos rfl] at kv
    refine ⟨fun z => ⟨vs, kv, by rw [dv.len, z]; exact Nat.le_refl _⟩, fun z => ⟨vs, vs[i]'(by rw [dv.len]; exact z), kv, by simp⟩, fun y H2 z hy => ?_⟩
    obtain ⟨rfl, hy⟩ := hy
    obtain ⟨w, hw, dw⟩ := dv.getV (hy vs kv)
    rw [item i w hw]
    exact ⟨rfl, dw⟩
theorem ae_lc (fro : Bool) {tg : Expr} {k : AbG} (hc : X.calm = true) (hN : X.N.Nodup) (ok : BlkOk X.N X.env.scope scope own) (ha : AE X S0 a fa) (hg : ACg X S0 scope (own.map (·.2)) tg k) (ht : ATs X S0 scope ifs ft) (he : AllB X scope fun Y => AE Y S0 elt fe)
    (hs : ∀ x, foldedSetIterable a X.env x = pure x := by intro _; rfl) : AE X S0 (.ListComp elt [⟨tg, a, ifs, 0⟩] scope pos) (aLc fro fa (own.map (·.2)) k ft fe) := by
  obtain ⟨ta, pa, qa⟩ := ha.ex
  obtain ⟨tg', pg, qg⟩ := hg.ex
  obtain ⟨tt, pt, qt⟩ := ht.ex
  obtain ⟨te, pe, qe⟩ := all_ae he
  exact ⟨_, pe_lc hc hN (pi_sq pa) ok pg pt pe hs, lc_sound fro qa qg qt qe⟩
theorem lcR_sound (fro : Bool) {vs : List Nat} {k : AbG} {ta : TA} {te : TE} {tg' : TG} {tt : TT} (qa : ∀ g m P, fs g m P → WA X.K S0 ta g m P) (qg : ∀ d g m P, k d (wipeD g vs) m P → ∀ v st H, Rep X.K H m → Env X.K (R m H) g st → Den X.K (R m H) d v →
      ∀ Q : L2.St → Hp → Prop, (∀ g' st', P g' m → wipe st' vs = wipe st vs → Env X.K (R m H) g' st' → Q st' H) → tg' v (wipe st vs) H Q)
    (qt : ∀ g m P, ft g m P → WT X.K S0 tt g m P) (qe : ∀ g m P, fe g m P → WX X.K S0 te g m P) : ∀ g m P, aLcR fro fs vs k ft fe g m P → WX X.K S0 (tLc (iRng1 ta) tg' tt te vs) g m P := by
  intro g m P h st H rp e0 en Q q
  refine qa g m _ h st H rp e0 en _ fun vs H1 ds m1 h1 p1 d1 => ?_
  match ds, h1 with
  | [.int n], h1 =>
    obtain ⟨v, rfl, dv⟩ := den1 d1
    cases dv
    obtain ⟨hn1, hn2, h1⟩ := h1
    refine ⟨n, rfl, by omega, by omega, lc_gen (n := n.toNat) p1.1 (e0.trans p1.2) (en.mono p1.2) qg qt qe (fun i m' H' hi hok r x => ?_) h1 fun v H' d' m' hp po dv => q v H' d' m' hp (p1.trans po) dv⟩
    refine ⟨fun z => ?_, fun z => z, fun y H2 z hy => ?_⟩
    · show n.toNat ≤ i
      omega
    · obtain ⟨rfl, rfl⟩ := hy
      refine ⟨rfl, ?_⟩
      show V.int (0 + (i : Nat)) = V.int i
      rw [Int.zero_add]
theorem ae_lcR (fro : Bool) {tg : Expr} {k : AbG} {pr p2 : Pos} (hc : X.calm = true) (hN : X.N.Nodup) (ok : BlkOk X.N X.env.scope scope own) (hm : X.mg "range" = none) (ha : AA X S0 [a] fs) (hg : ACg X S0 scope (own.map (·.2)) tg k) (ht : ATs X S0 scope ifs ft) (he : AllB X scope fun Y => AE Y S0 elt fe)
    (hgl : Gl X "range" := by rfl) (hs1 : starEach [a] X.env = [(false, eval a X.env)] := by rfl) (hs : ∀ x, foldedSetIterable (.Call (.Name "range" pr) [a] [] p2) X.env x = pure x := by intro _; rfl) :
    AE X S0 (.ListComp elt [⟨tg, .Call (.Name "range" pr) [a] [] p2, ifs, 0⟩] scope pos) (aLcR fro fs (own.map (·.2)) k ft fe) := by
  obtain ⟨ta, pa, qa⟩ := ha.ex
  obtain ⟨tg', pg, qg⟩ := hg.ex
  obtain ⟨tt, pt, qt⟩ := ht.ex
  obtain ⟨te, pe, qe⟩ := all_ae he
  exact ⟨_, pe_lc hc hN (pi_range1 hgl hm pa hs1) ok pg pt pe hs, lcR_sound fro qa qg qt qe⟩
end
end AL
set_option maxHeartbeats 1000000
namespace AL
open PySem L2 Evl
/-- what is wished of an error: its class, its fields, what is mutable then -/
abbrev PX := Addr → List (Str × D) → Mu → Prop
abbrev ASp := List D → Mu → PD → PX → Prop
def XW (K : PySem.W.Frag) (S0 : Hp) (W : PX) (cls : Value) (d : Option Addr) (H : Hp) : Prop :=
  ∃ (C dd : Addr) (fs : List (Str × D)) (gs : List (Str × V)) (m : Mu), cls = .ref C ∧ d = some dd ∧ W C fs m ∧ Rep K H m ∧ Ex S0 (R m H) ∧ m dd = none ∧ H dd = some (.xd gs) ∧ DenF K (R m H) fs gs
def lift (K : PySem.W.Frag) (sp : ASp) : Sp := fun vs H Q E => ∃ (ds : List D) (m : Mu) (P : PD) (W : PX), DenL K (R m H) ds vs ∧ Rep K H m ∧ sp ds m P W ∧
  (∀ v H' d m', P d m' → Po K m H m' H' → Den K (R m' H') d v → Q v H') ∧ ∀ cls d H', XW K (R m H) W cls d H' → E cls d H'
/-- what data may be told as later -/
def Fz (K : PySem.W.Frag) (d : D) (m : Mu) (d' : D) (m' : Mu) : Prop := ∀ H v, Rep K H m → Den K (R m H) d v → Po K m H m' H ∧ Den K (R m' H) d' v
section
variable {K : PySem.W.Frag} {d d' d2 : D} {m m' m2 : Mu}
theorem Fz.refl : Fz K d m d m := fun _ _ r h => ⟨Po.refl r, h⟩
theorem Fz.drop (p : Addr) : Fz K d m d (mdel m p) := fun _ _ r h => ⟨Po.del r, Den.mono (Po.del r).2 _ _ h⟩
theorem Fz.lst {p : Addr} {ds : List D} (e : m p = some (.lst ds)) : Fz K (.box p) m (.lst ds) (mdel m p) := fun H v r h => by
  cases h
  exact ⟨Po.del r, den_frozen r e⟩
theorem Fz.trans (a : Fz K d m d' m') (b : Fz K d' m' d2 m2) : Fz K d m d2 m2 := fun H v r h =>
  let ⟨p, h1⟩ := a H v r h
  let ⟨p2, h2⟩ := b H v p.1 h1
  ⟨p.trans p2, h2⟩
end
def fzE (K : PySem.W.Frag) (P : PD) : PD := fun d m => ∃ d' m', Fz K d m d' m' ∧ P d' m'
theorem fzE.of {K : PySem.W.Frag} {P : PD} {d : D} {m : Mu} (h : P d m) : fzE K P d m := ⟨d, m, Fz.refl, h⟩
section
variable {P : Program} {w : World} {K : PySem.W.Frag} {mg : Str → Option Value} {base : Heap}
/-- a def's context -/
abbrev cxA (P : Program) (w : World) (K : PySem.W.Frag) (mg : Str → Option Value) (base : Heap) (N : List Str) (qual : Str) (st : Stmt) (f : Addr) (cdv : Value) (A : Around) (outer : List PySem.Env) (s : Shared) (H : Hp) (E : XK) : Cx := cxOf (L2.CX P w) P w K mg base N qual (defScope st) f cdv A outer s H E
theorem fn_ok {x qual : Str} {st : Stmt} {f : Addr} {fd : FuncData} {N ps : List Str} {k : Nat} {sp : ASp} {body : PX → AbS} (F : Fun K x qual st f fd) (S : FnScope N ps (defScope st)) (len : ∀ ds m P W, sp ds m P W → ds.length = ps.length)
    (hb : ∀ (cdv : Value) (A : Around) (outer : List PySem.Env) (s : Shared) (H : Hp) (E : XK) (S0 : Hp) (W : PX), Room k (A.deeper (PyProof.Rows.envOfC qual (defScope st) s.heap.objs.size f cdv)) →
      Takes (cxA P w K mg base N qual st f cdv A outer s H E) (fun cls d _ H' => XW K S0 W cls d H') → AB (cxA P w K mg base N qual st f cdv A outer s H E) S0 (defBody st) (body W))
    (hr : ∀ ds m Q W, sp ds m Q W → body W { nx := fun _ m' => fzE K Q .non m', rt := fzE K Q } (ds.map some ++ List.replicate (N.length - ds.length) none) m) : FnOk P w K mg base (L2.CX P w) (k + 1) f fd ps (lift K sp) := by
  refine F.okX S (fun vs H Q E h => ?_) (fun cdv A outer s H vs Q E hr' h => ?_)
  · obtain ⟨ds, m, P', W, d1, _, h1, _⟩ := h
    rw [d1.len, len ds m P' W h1]
  · obtain ⟨ds, m, P', W, d1, rp, h1, hq, hx⟩ := h
    have tk : Takes (cxA P w K mg base N qual st f cdv A outer s H E) (fun cls d _ H' => XW K (R m H) W cls d H') := (takes_of rfl rfl rfl rfl).imp fun cls d _ H' z => hx cls d H' z
    obtain ⟨t, pt, qt⟩ := (hb cdv A outer s H E (R m H) W hr' tk).ex
    refine ⟨t, pt, ?_⟩
    refine qt _ _ m (hr ds m P' W h1) _ H (R m H) rp (Ex.refl _) (Ex.refl _) ?_ _ ⟨fun g' m' st' H' ⟨d', m2, hz, hp⟩ r' x' en' => ?_, fun d' m' v H' ⟨d2, m2, hz, hp⟩ r' x' dv => ?_, fun _ _ _ _ z => z.elim, fun _ _ _ _ z => z.elim⟩
    · unfold L2.start
      rw [d1.len]
      exact Env.start _ d1
    · obtain ⟨po, dv⟩ := hz H' .non r' rfl
      exact hq _ H' d' m2 hp ⟨po.1, x'.trans po.2⟩ dv
    · obtain ⟨po, dv'⟩ := hz H' v r' dv
      exact hq v H' d2 m2 hp ⟨po.1, x'.trans po.2⟩ dv'
end
section
variable {X : Cx} {S0 : Hp} {a b c e o : Expr} {es : List Expr} {kws : List Keyword} {fa fb fc fo fe fi : Ab} {ft fu : AbT} {fs fr : AbA} {pos apos p : Pos} {k : Nat} {f C : Addr} {fd : FuncData} {ps : List Str} {sp : ASp} {x : Str}
/-! ### calls of the text's own defs -/
/-- nothing is raised -/
def aCall (sp : ASp) (fs : AbA) : Ab := fun g m P => fs g m fun ds m1 => sp ds m1 P fun _ _ _ => False
theorem noW {K : PySem.W.Frag} {S1 : Hp} {cls : Value} {d : Option Addr} {H : Hp} (h : XW K S1 (fun _ _ _ => False) cls d H) : False := by
  obtain ⟨_, _, _, _, _, _, _, z, _⟩ := h
  exact z
theorem call_sound {K : PySem.W.Frag} {t : TA} {E : XK} {W : PX} (hW : ∀ S1 cls d H, Ex S0 S1 → XW K S1 W cls d H → E cls d H) (s : ∀ g m P, fs g m P → WA K S0 t g m P) :
    ∀ g m P, (fs g m fun ds m1 => sp ds m1 P W) → WX K S0 (tCall (lift K sp) [] E t) g m P := fun g m P h st H rp e0 en Q q =>
  s g m _ h st H rp e0 en _ fun vs H1 ds m1 h1 p1 d1 => by
    rw [List.append_nil]
    exact ⟨ds, m1, P, W, d1, p1.1, h1, fun v H' d m' hp po dv => q v H' d m' hp (p1.trans po) dv, fun cls d H' z => hW _ cls d H' (e0.trans p1.2) z⟩
theorem ae_call (F : FnOk X.prog X.w X.K X.mg X.base (L2.CX X.prog X.w) k f fd ps (lift X.K sp)) (hr : Room k X.A) (hm : X.mg x = some (.ref f)) (hk : PySem.W.keepIn X.K (.ref f) = true) (hb : Binds X.K fd ps []) (ha : AA X S0 (e :: es) fs)
    (hg : Gl X x := by rfl) (hdb : (x == ("__debug__" : Str)) = false := by decide) (he : starEach (e :: es) X.env = (false, eval e X.env) :: starEach es X.env := by rfl) (hpl : (backTo pos (starEach es X.env)).any (·.1) = false := by rfl) :
    AE X S0 (.Call (.Name x p) (e :: es) [] pos) (aCall sp fs) := by
  obtain ⟨t, pt, s⟩ := ha.ex
  exact ⟨_, pe_call F hr hg hm hk hb .nil passL pt hdb he hpl, call_sound (fun _ _ _ _ _ z => (noW z).elim) s⟩
/-- what is raised leaves this def, too -/
def aCallX (W : PX) (sp : ASp) (fs : AbA) : Ab := fun g m P => fs g m fun ds m1 => sp ds m1 P W
theorem xw_mono {K : PySem.W.Frag} {S1 : Hp} {W : PX} {cls : Value} {d : Option Addr} {H : Hp} (e : Ex S0 S1) (h : XW K S1 W cls d H) : XW K S0 W cls d H := by
  obtain ⟨C, dd, fs, gs, m, h1, h2, h3, h4, h5, h6⟩ := h
  exact ⟨C, dd, fs, gs, m, h1, h2, h3, h4, e.trans h5, h6⟩
theorem ae_callX {W : PX} (tk : Takes X (fun cls d _ H' => XW X.K S0 W cls d H')) (F : FnOk X.prog X.w X.K X.mg X.base (L2.CX X.prog X.w) k f fd ps (lift X.K sp)) (hr : Room k X.A) (hm : X.mg x = some (.ref f)) (hk : PySem.W.keepIn X.K (.ref f) = true) (hb : Binds X.K fd ps []) (ha : AA X S0 (e :: es) fs)
    (hg : Gl X x := by rfl) (hdb : (x == ("__debug__" : Str)) = false := by decide) (he : starEach (e :: es) X.env = (false, eval e X.env) :: starEach es X.env := by rfl) (hpl : (backTo pos (starEach es X.env)).any (·.1) = false := by rfl) :
    AE X S0 (.Call (.Name x p) (e :: es) [] pos) (aCallX W sp fs) := by
  obtain ⟨t, pt, s⟩ := ha.ex
  exact ⟨_, pe_call F hr hg hm hk hb .nil (E := fun cls d H' => XW X.K S0 W cls d H') (passes_call tk fun _ _ _ _ z => z) pt hdb he hpl, call_sound (fun _ _ _ _ e z => xw_mono e z) s⟩
/-- f(x=e, ..): all by keywords, in the parameters' order -/
structure AK (X : Cx) (S0 : Hp) (kws : List Keyword) (f : AbA) : Prop where
  ex : ∃ t, PK X kws t ∧ ∀ g m P, f g m P → WA X.K S0 t g m P
theorem ak_nil : AK X S0 [] aNil := ⟨_, pk_nil, fun g m P h st H rp e0 en Q q => q [] H [] m h (Po.refl rp) rfl⟩
theorem ak_cons {nm : Option Str} {kp : Pos} (ha : AE X S0 e fa) (hr : AK X S0 kws fr) : AK X S0 (⟨nm, e, kp⟩ :: kws) (aCons fa fr) := by
  obtain ⟨ta, pa, sa⟩ := ha.ex
  obtain ⟨tb, pb, sb⟩ := hr.ex
  exact ⟨_, pk_cons pa pb, fun g m P h st H rp e0 en Q q => sa g m _ h st H rp e0 en _ fun v H1 d m1 h1 p1 d1 =>
    sb g m1 _ h1 st H1 p1.1 (e0.trans p1.2) (en.mono p1.2) _ fun vs H2 ds m2 h2 p2 d2 =>
      q (v :: vs) H2 (d :: ds) m2 h2 (p1.trans p2) ⟨v, vs, rfl, Den.mono p2.2 _ _ d1, d2⟩⟩
theorem ae_callKX {W : PX} {E : XK} (hW : ∀ S1 cls d H, Ex S0 S1 → XW X.K S1 W cls d H → E cls d H) (hx : Passes (L2.CX X.prog X.w) X E) (F : FnOk X.prog X.w X.K X.mg X.base (L2.CX X.prog X.w) k f fd ps (lift X.K sp)) (hr : Room k X.A) (hm : X.mg x = some (.ref f)) (hk : PySem.W.keepIn X.K (.ref f) = true)
    (hb : KBinds X.K fd ps ps (fun us ws => us ++ ws) (fun us ws => us ++ ws)) (ha : AK X S0 kws fs)
    (hg : Gl X x := by rfl) (hdb : (x == ("__debug__" : Str)) = false := by decide) (hall : (backToKw pos (keywordEach kws X.env)).all (·.1.isSome) = true := by rfl) (hks : (backToKw pos (keywordEach kws X.env)).filterMap (·.1) = ps := by rfl)
    (hpl : ((backTo pos (starEach [] X.env)).any (·.1) || (backToKw pos (keywordEach kws X.env)).any (·.1.isNone)) = false := by rfl) : AE X S0 (.Call (.Name x p) [] kws pos) (aCallX W sp fs) := by
  obtain ⟨t, pt, s⟩ := ha.ex
  refine ⟨fun st H Q => t st H fun vs H1 => lift X.K sp vs H1 Q E, ⟨fun pins s0 st H Q I h => ?_⟩, fun g m P h st H rp e0 en Q q => ?_⟩
  · apply wpAny_Call_Name_kw
    apply ld_glob I hg hm _ hdb
    apply PySem.W.callWith_KW0 (h₀ := X.base) I.ok.mod.kin hk hall _ hpl
    apply thn (pt.run pos pins s0 st H _ I h)
    rintro ws s2 ⟨zs, H2, I2, rz, q2⟩
    refine ⟨I2.kIn, ?_⟩
    rw [hks]
    exact run_fnk F hr hb hx I2 .nil rz q2
  · refine s g m _ h st H rp e0 en _ fun vs H1 ds m1 h1 p1 d1 => ?_
    exact ⟨ds, m1, P, W, d1, p1.1, h1, fun v H' d m' hp po dv => q v H' d m' hp (p1.trans po) dv, fun cls d H' z => hW _ cls d H' (e0.trans p1.2) z⟩
end
end AL
set_option maxHeartbeats 1000000
namespace AL
open PySem L2 Evl
section
variable {X : Cx} {S0 : Hp} {a b c e o i : Expr} {es : List Expr} {kws : List Keyword} {fa fb fc fo fe fi : Ab} {ft fu : AbT} {fs fr : AbA} {pos apos p tpos : Pos} {k : Nat} {f C : Addr} {fd : FuncData} {ps : List Str} {sp : ASp} {x nm : Str} {K : PySem.W.Frag}
/-! ### xs[i] += e -/
theorem get_l : PGet X (rIxL X.K) := by
  intro pn s0 st H x y u v Q I rx ry h
  obtain ⟨q, xs, j, z, rfl, rfl, hq, hj, k0⟩ := h
  cases rx
  obtain ⟨t, rfl⟩ := ry
  obtain ⟨vs, rv, pl, hz⟩ := I.list hq
  obtain ⟨n, h1, h2, h3, h4, h5⟩ := atI_get hj
  obtain ⟨w, hw, rw1⟩ := rv.get h2
  have hl := rv.length
  have hn := line63
  have fin : EP X pn st Q w s0 := ⟨z, H, I, rw1, k0⟩
  unfold L2.atI ixN at hj
  by_cases h0 : 0 ≤ j
  · rw [if_pos h0, if_pos h5] at hj
    obtain ⟨w2, hw2, rw2⟩ := rv.get (show xs[j.toNat]? = some z from hj)
    exact wpAny_getItem_list pl.isList h0 (by omega) (by simpa using hw2) ⟨z, H, I, rw2, k0⟩
  · rw [if_neg h0, if_pos h4] at hj
    obtain ⟨w2, hw2, rw2⟩ := rv.get (show xs[(j + xs.length).toNat]? = some z from hj)
    refine wpAny_getItem_list_neg pl.isList (by omega) (by simp; omega) (by omega) ?_ ⟨z, H, I, rw2, k0⟩
    have e : (vs.toArray.size : Int) = (xs.length : Int) := by simp; omega
    rw [e]
    simpa using hw2
def aAugIx (fn : Int → Int → Int) (fo fi fe : Ab) : AbS := fun E g m => fo g m fun x m1 => fi g m1 fun i m2 => match x, i with
  | .box p, .int n => match m2 p with
    | some (.lst ds) => match atI ds n with
      | some (.int old) => fe g m2 fun d m3 => match d with
        | .int y => fSetIx (.box p) (.int n) (.int (fn old y)) m3 fun m4 => E.nx g m4
        | _ => False
      | _ => False
    | _ => False
  | _, _ => False
theorem as_augIx {op : Operator} {fn : Int → Int → Int} (hp : PIp X op (ipI fn)) (ho : AE X S0 o fo) (hi : AE X S0 i fi) (he : AE X S0 e fe)
    (ha : ∀ ov iv new, augStore i ov iv new = (do holding [new, ov, iv] (setItem ov iv new); release [new, ov, iv] []; pure .next) := by intros; rfl) : AS X S0 (.AugAssign (.Subscript o i tpos) op e pos) (aAugIx fn fo fi fe) := by
  obtain ⟨to, po, qo⟩ := ho.ex
  obtain ⟨ti, pi, qi⟩ := hi.ex
  obtain ⟨te, pe, qe⟩ := he.ex
  refine ⟨_, ps_augS po pi get_l pe hp set_list ha, fun E g m h st H S1 rp e0 e1 en D ok => ?_⟩
  refine qo g m _ h st H rp (e0.trans e1) en _ fun v1 H1 x m1 h1 p1 d1 => ?_
  refine qi g m1 _ h1 st H1 p1.1 ((e0.trans e1).trans p1.2) (en.mono p1.2) _ fun v2 H2 y m2 h2 p2 d2 => ?_
  have d1' := Den.mono p2.2 _ _ d1
  match x, y, h2, d1', d2 with
  | .box p, .int n, h2, d1', d2 =>
    have h2 : (match m2 p with
      | some (.lst ds) => (match atI ds n with
        | some (.int old) => fe g m2 fun d m3 => (match d with
          | .int y => fSetIx (.box p) (.int n) (.int (fn old y)) m3 fun m4 => E.nx g m4
          | _ => False)
        | _ => False)
      | _ => False) := h2
    cases e2 : m2 p with
    | none =>
      rw [e2] at h2
      exact h2.elim
    | some ob =>
      rw [e2] at h2
      cases ob with
      | ins C dx fs => exact h2.elim
      | lst ds =>
        have h2 : (match atI ds n with
          | some (.int old) => fe g m2 fun d m3 => (match d with
            | .int y => fSetIx (.box p) (.int n) (.int (fn old y)) m3 fun m4 => E.nx g m4
            | _ => False)
          | _ => False) := h2
        cases e3 : atI ds n with
        | none =>
          rw [e3] at h2
          exact h2.elim
        | some dd =>
          rw [e3] at h2
          cases dd with
          | int old =>
            obtain ⟨us, hu, du⟩ := p2.1 p _ e2
            obtain ⟨z, hz, dz⟩ := du.atI e3
            cases d1'
            cases d2
            cases dz
            refine ⟨p, us, n, _, rfl, rfl, sq_of hu, hz, ?_⟩
            have p12 := p1.trans p2
            refine qe g m2 _ h2 st H2 p2.1 ((e0.trans e1).trans p12.2) (en.mono p12.2) _ fun v3 H3 d m3 h3 p3 d3 => ?_
            cases d <;> first | exact (show False from h3).elim | skip
            cases d3
            refine ⟨old, _, rfl, rfl, setIx_ok h3 p3.1 rfl rfl rfl fun H4 m4 h4 p4 => ?_⟩
            have p124 := p12.trans (p3.trans p4)
            exact ok.nx g m4 st H4 h4 p4.1 (e1.trans p124.2) (en.mono p124.2)
          | _ => exact (show False from h2).elim
/-! ### instances -/
def fldOf (C : Addr) (m : Mu) (f : Str) : D → Option D
  | .box p => match m p with
    | some (.ins C' _ fs) => if C' = C then fs.lookup f else none
    | _ => none
  | _ => none
theorem fld_den {m : Mu} {H : Hp} {d y : D} {v : V} (rp : Rep K H m) (h : Den K (R m H) d v) (e : fldOf C m nm d = some y) : ∃ p dx gs w, v = .ref p ∧ H p = some (.ins C dx gs) ∧ gs.lookup nm = some w ∧ Den K (R m H) y w := by
  cases d <;> first | cases e | skip
  rename_i p
  have e : (match m p with
    | some (.ins C' _ fs) => if C' = C then fs.lookup nm else none
    | _ => none) = some y := e
  cases q : m p with
  | none =>
    rw [q] at e
    cases e
  | some ob =>
    rw [q] at e
    cases ob with
    | lst ds => cases e
    | ins C' dx fs =>
      have ee : (if C' = C then fs.lookup nm else none) = some y := e
      by_cases hc : C' = C
      · rw [if_pos hc] at ee
        subst hc
        obtain ⟨gs, h1, h2⟩ := rp p _ q
        obtain ⟨w, hw, dw⟩ := h2.look ee
        cases h
        exact ⟨p, dx, gs, w, rfl, h1, hw, dw⟩
      · rw [if_neg hc] at ee
        cases ee
def aFld (C : Addr) (f : Str) (fo : Ab) : Ab := fun g m P => fo g m fun x m1 => match fldOf C m1 f x with
  | some d => P d m1
  | none => False
theorem ae_fld (c : Cls X.K C) (n : NoAttr X.K C nm) (ho : AE X S0 o fo) (hb : attributeBase o nm X.env (eval o X.env) = eval o X.env := by rfl) : AE X S0 (.Attribute o nm pos) (aFld C nm fo) := by
  obtain ⟨to, po, qo⟩ := ho.ex
  refine ⟨_, pe_fld po hb, fun g m P h st H rp e0 en Q q => qo g m _ h st H rp e0 en _ fun v H1 x m1 h1 p1 d1 => ?_⟩
  cases e : fldOf C m1 nm x with
  | none =>
    rw [e] at h1
    exact h1.elim
  | some d =>
    rw [e] at h1
    obtain ⟨p, dx, gs, w, rfl, h2, h3, h4⟩ := fld_den p1.1 d1 e
    exact ⟨p, C, dx, gs, w, rfl, h2, c, n, h3, q w H1 d m1 h1 p1 h4⟩
/-- o.f = e -/
def setFld (C : Addr) (f : Str) (x d : D) (m : Mu) (P : Mu → Prop) : Prop := match x with
  | .box p => match m p with
    | some (.ins C' dx fs) => C' = C ∧ fs.length < 1000 ∧ P (mset m p (.ins C dx (putD f d fs)))
    | _ => False
  | _ => False
theorem setFld_ok {x d : D} {m : Mu} {P : Mu → Prop} (h : setFld C nm x d m P) {v w : V} {H : Hp} (rp : Rep K H m) (d1 : Den K (R m H) x v) (d2 : Den K (R m H) d w) {Q : Hp → Prop} (q : ∀ H' m', P m' → Po K m H m' H' → Q H') :
    ∃ p dx gs, v = .ref p ∧ H p = some (.ins C dx gs) ∧ gs.length < 1000 ∧ Q (upd H p (.ins C dx (putF nm w gs))) := by
  cases x <;> first | exact (show False from h).elim | skip
  rename_i p
  have h : (match m p with
    | some (.ins C' dx fs) => C' = C ∧ fs.length < 1000 ∧ P (mset m p (.ins C dx (putD nm d fs)))
    | _ => False) := h
  cases e : m p with
  | none =>
    rw [e] at h
    exact h.elim
  | some ob =>
    rw [e] at h
    cases ob with
    | lst ds => exact h.elim
    | ins C' dx fs =>
      obtain ⟨rfl, hl, h⟩ := h
      obtain ⟨gs, h1, h2⟩ := rp p _ e
      cases d1
      exact ⟨p, dx, gs, rfl, h1, by rw [h2.len]; exact hl, q _ _ h (Po.setI rp e (h2.put d2))⟩
def aSetFld (C : Addr) (f : Str) (fo fe : Ab) : AbS := fun E g m => fe g m fun d m1 => fo g m1 fun x m2 => setFld C f x d m2 fun m3 => E.nx g m3
theorem as_fld {p' : Pos} (c : Cls X.K C) (n : NoAttr X.K C nm) (ho : AE X S0 o fo) (he : AE X S0 e fe) (hs : swapsWith e (some (.Attribute o nm p')) pos.line X.env = pure false := by rfl) : AS X S0 (.Assign [.Attribute o nm p'] e pos) (aSetFld C nm fo fe) := by
  obtain ⟨to, po, qo⟩ := ho.ex
  obtain ⟨te, pe, qe⟩ := he.ex
  refine ⟨_, ps_fld po pe hs, fun E g m h st H S1 rp e0 e1 en D ok => ?_⟩
  refine qe g m _ h st H rp (e0.trans e1) en _ fun v1 H1 d m1 h1 p1 d1 => ?_
  refine qo g m1 _ h1 st H1 p1.1 ((e0.trans e1).trans p1.2) (en.mono p1.2) _ fun v2 H2 x m2 h2 p2 d2 => ?_
  obtain ⟨q, dx, gs, rfl, h3, h4, h5⟩ := setFld_ok h2 p2.1 d2 (Den.mono p2.2 _ _ d1) fun H3 m3 h3 p3 => ok.nx g m3 st H3 h3 p3.1 (e1.trans ((p1.trans p2).trans p3).2) (en.mono ((p1.trans p2).trans p3).2)
  exact ⟨q, C, dx, gs, rfl, h3, c, n, h4, h5⟩
/-- o.f += e, numbers -/
def aFldAug (C : Addr) (f : Str) (fo fe : Ab) : AbS := fun E g m => fo g m fun x m1 => match fldOf C m1 f x with
  | some (.int old) => fe g m1 fun d m2 => match d with
    | .int y => setFld C f x (.int (old + y)) m2 fun m3 => E.nx g m3
    | _ => False
  | _ => False
theorem as_fldAug (c : Cls X.K C) (n : NoAttr X.K C nm) (ho : AE X S0 o fo) (he : AE X S0 e fe) : AS X S0 (.AugAssign (.Attribute o nm tpos) .Add e pos) (aFldAug C nm fo fe) := by
  obtain ⟨to, po, qo⟩ := ho.ex
  obtain ⟨te, pe, qe⟩ := he.ex
  refine ⟨_, ps_fldaug po pe in_add, fun E g m h st H S1 rp e0 e1 en D ok => ?_⟩
  refine qo g m _ h st H rp (e0.trans e1) en _ fun v1 H1 x m1 h1 p1 d1 => ?_
  have h1 : (match fldOf C m1 nm x with
    | some (.int old) => fe g m1 fun d m2 => (match d with
      | .int y => setFld C nm x (.int (old + y)) m2 fun m3 => E.nx g m3
      | _ => False)
    | _ => False) := h1
  cases e2 : fldOf C m1 nm x with
  | none =>
    rw [e2] at h1
    exact h1.elim
  | some y =>
    rw [e2] at h1
    cases y with
    | int old =>
      obtain ⟨q, dx, gs, w, rfl, h2, h3, h4⟩ := fld_den p1.1 d1 e2
      cases h4
      refine ⟨q, C, dx, gs, _, rfl, h2, c, n, h3, ?_⟩
      refine qe g m1 _ h1 st H1 p1.1 ((e0.trans e1).trans p1.2) (en.mono p1.2) _ fun v2 H2 d m2 h5 p2 d2 => ?_
      cases d <;> first | exact (show False from h5).elim | skip
      cases d2
      obtain ⟨q', dx', gs', e3, h6, h7, h8⟩ := setFld_ok h5 p2.1 (Den.mono p2.2 _ _ d1) rfl fun H3 m3 h3 p3 => ok.nx g m3 st H3 h3 p3.1 (e1.trans ((p1.trans p2).trans p3).2) (en.mono ((p1.trans p2).trans p3).2)
      cases e3
      exact ⟨old, _, rfl, rfl, dx', gs', h6, h7, h8⟩
    | _ => exact (show False from h1).elim
/-! ### methods of instances, instances made -/
def isI (C : Addr) (nm : Str) (m : Mu) : D → Prop
  | .box p => match m p with
    | some (.ins C' _ fs) => C' = C ∧ fs.lookup nm = none
    | _ => False
  | _ => False
theorem isI_den {m : Mu} {H : Hp} {d : D} {v : V} (rp : Rep K H m) (h : Den K (R m H) d v) (e : isI C nm m d) : ∃ p dx gs, v = .ref p ∧ H p = some (.ins C dx gs) ∧ gs.lookup nm = none := by
  cases d <;> first | exact (show False from e).elim | skip
  rename_i p
  have e : (match m p with
    | some (.ins C' _ fs) => C' = C ∧ fs.lookup nm = none
    | _ => False) := e
  cases q : m p with
  | none =>
    rw [q] at e
    exact e.elim
  | some ob =>
    rw [q] at e
    cases ob with
    | lst ds => exact e.elim
    | ins C' dx fs =>
      obtain ⟨rfl, hl⟩ := e
      obtain ⟨gs, h1, h2⟩ := rp p _ q
      cases h
      exact ⟨p, dx, gs, rfl, h1, h2.lookN hl⟩
def aMeth (C : Addr) (nm : Str) (W : PX) (sp : ASp) (fo : Ab) (fs : AbA) : Ab := fun g m P => fo g m fun x m1 => isI C nm m1 x ∧ fs g m1 fun ds m2 => sp (x :: ds) m2 P W
theorem meth_sound {K : PySem.W.Frag} {to : TE} {t : TA} {E : XK} {W : PX} (hW : ∀ S1 cls d H, Ex S0 S1 → XW K S1 W cls d H → E cls d H) (so : ∀ g m P, fo g m P → WX K S0 to g m P) (s : ∀ g m P, fs g m P → WA K S0 t g m P) :
    ∀ g m P, aMeth C nm W sp fo fs g m P → WX K S0 (tMeth C nm (lift K sp) [] E to t) g m P := fun g m P h st H rp e0 en Q q =>
  so g m _ h st H rp e0 en _ fun v H1 x m1 h1 p1 d1 => by
    obtain ⟨hi, h1⟩ := h1
    obtain ⟨p, dx, gs, rfl, h2, h3⟩ := isI_den p1.1 d1 hi
    refine ⟨p, dx, gs, rfl, h2, h3, s g m1 _ h1 st H1 p1.1 (e0.trans p1.2) (en.mono p1.2) _ fun vs H2 ds m2 h4 p2 d2 => ?_⟩
    rw [List.append_nil]
    exact ⟨x :: ds, m2, P, W, ⟨_, _, rfl, Den.mono p2.2 _ _ d1, d2⟩, p2.1, h4, fun v H' d m' hp po dv => q v H' d m' hp ((p1.trans p2).trans po) dv, fun cls d H' z => hW _ cls d H' (e0.trans (p1.trans p2).2) z⟩
theorem ae_meth {W : PX} {E : XK} {pl : Sem Bool} (hW : ∀ S1 cls d H, Ex S0 S1 → XW X.K S1 W cls d H → E cls d H) (hx : Passes (L2.CX X.prog X.w) X E) (c : Cls X.K C) (hm : Meth X.K C nm f) (F : FnOk X.prog X.w X.K X.mg X.base (L2.CX X.prog X.w) k f fd ps (lift X.K sp)) (hr : Room k X.A) (hb : Binds X.K fd ps [])
    (ho : AE X S0 o fo) (ha : AA X S0 (e :: es) fs)
    (hst : starEach (e :: es) X.env = (false, eval e X.env) :: starEach es X.env := by rfl) (hpl : (backTo pos (starEach es X.env)).any (·.1) = false := by rfl)
    (ht : eval (.Call (.Attribute o nm apos) (e :: es) [] pos) X.env = (do
      let ov ← eval o X.env
      standAt apos.atName
      let (f, first) ← holding [ov] (getMethod ov nm pl)
      callWith pos f first (backTo pos (starEach (e :: es) X.env)) (backToKw pos (keywordEach [] X.env))) := by rfl) : AE X S0 (.Call (.Attribute o nm apos) (e :: es) [] pos) (aMeth C nm W sp fo fs) := by
  obtain ⟨to, po, qo⟩ := ho.ex
  obtain ⟨t, pt, s⟩ := ha.ex
  exact ⟨_, pe_meth po c hm F hr hb .nil hx pt hst hpl ht, meth_sound hW qo s⟩
theorem ae_meth0 {W : PX} {E : XK} {pl : Sem Bool} (hW : ∀ S1 cls d H, Ex S0 S1 → XW X.K S1 W cls d H → E cls d H) (hx : Passes (L2.CX X.prog X.w) X E) (c : Cls X.K C) (hm : Meth X.K C nm f) (F : FnOk X.prog X.w X.K X.mg X.base (L2.CX X.prog X.w) k f fd ps (lift X.K sp)) (hr : Room k X.A) (hb : Binds X.K fd ps [])
    (ho : AE X S0 o fo)
    (ht : eval (.Call (.Attribute o nm apos) [] [] pos) X.env = (do
      let ov ← eval o X.env
      standAt apos.atName
      let (g1, first) ← holding [ov] (getMethod ov nm pl)
      callWith pos g1 first (backTo pos (starEach [] X.env)) (backToKw pos (keywordEach [] X.env))) := by rfl) : AE X S0 (.Call (.Attribute o nm apos) [] [] pos) (aMeth C nm W sp fo aNil) := by
  obtain ⟨to, po, qo⟩ := ho.ex
  exact ⟨_, pe_meth0 po c hm F hr hb .nil hx ht, meth_sound hW qo fun g m P h st H rp e0 en Q q => q [] H [] m h (Po.refl rp) rfl⟩
/-- C(..) -/
def aMake (C : Addr) (W : PX) (sp : ASp) (fs : AbA) : Ab := fun g m P => fs g m fun ds m1 => ∀ p dx, m1 p = none → sp (.box p :: ds) (mset m1 p (.ins C dx [])) (fun _ m2 => P (.box p) m2) W
theorem Po.newI {m : Mu} {H : Hp} {q dx C : Addr} (h : Rep K H m) (hq : H q = none) (hd : H dx = none) (ne : dx ≠ q) : Po K m H (mset m q (.ins C dx [])) (upd (upd H dx (.own q)) q (.ins C dx [])) := by
  have mq := h.fresh hq
  have md := h.fresh hd
  have ex : Ex (R m H) (R (mset m q (.ins C dx [])) (upd (upd H dx (.own q)) q (.ins C dx []))) := fun b u hb => by
    obtain ⟨h1, h2⟩ := R_of hb
    have n1 := ne_of_none h2 hq
    have n2 := ne_of_none h2 hd
    rw [R_none (by rw [mset_ne n1]; exact h1), upd_ne n1, upd_ne n2]
    exact h2
  refine ⟨fun b u hb => ?_, ex⟩
  by_cases z : b = q
  · subst z
    rw [mset_same] at hb
    cases hb
    exact ⟨[], upd_same, rfl⟩
  · rw [mset_ne z] at hb
    refine MOk.mono ex ?_ (h b u hb)
    have zd : b ≠ dx := fun y => by
      rw [y, md] at hb
      cases hb
    rw [upd_ne z, upd_ne zd]
theorem ae_make {W : PX} {E : XK} (hW : ∀ S1 cls d H, Ex S0 S1 → XW X.K S1 W cls d H → E cls d H) (hx : Passes (L2.CX X.prog X.w) X E) (M : Mk X.K C f) (F : FnOk X.prog X.w X.K X.mg X.base (L2.CX X.prog X.w) k f fd ps (lift X.K sp)) (hr : Room (k + 1) X.A) (hm : X.mg x = some (.ref C)) (hb : Binds X.K fd ps [])
    (hnon : ∀ ds m P W, sp ds m P W → sp ds m (fun d m' => d = .non ∧ P d m') W) (ha : AA X S0 (e :: es) fs) (hg : Gl X x := by rfl) (hdb : (x == ("__debug__" : Str)) = false := by decide)
    (he : starEach (e :: es) X.env = (false, eval e X.env) :: starEach es X.env := by rfl) (hpl : (backTo pos (starEach es X.env)).any (·.1) = false := by rfl) : AE X S0 (.Call (.Name x p) (e :: es) [] pos) (aMake C W sp fs) := by
  obtain ⟨t, pt, s⟩ := ha.ex
  refine ⟨_, pe_make M F hr hg hm hb .nil hx pt hdb he hpl, fun g m P h st H rp e0 en Q q0 => ?_⟩
  refine s g m _ h st H rp e0 en _ fun vs H1 ds m1 h1 p1 d1 => ?_
  intro q dx hq hd ne
  rw [List.append_nil]
  have p2 := Po.newI (C := C) p1.1 hq hd ne
  refine ⟨.box q :: ds, _, _, W, ⟨_, _, rfl, rfl, DenL.mono p2.2 _ _ d1⟩, p2.1, hnon _ _ _ _ (h1 q dx (p1.1.fresh hq)), fun v H' d m' hp po dv => ?_, fun cls d H' z => hW _ cls d H' (e0.trans (p1.trans p2).2) z⟩
  obtain ⟨rfl, hp⟩ := hp
  exact ⟨dv, q0 (.ref q) H' (.box q) m' hp ((p1.trans p2).trans po) rfl⟩
/-! ### errors with two fields -/
/-- what such a class's __init__ does -/
def spI2 (n1 n2 : Str) (C : Addr) : Sp := fun vs H Q _ => ∃ (a : Addr) (v1 v2 : V), vs = [.ref a, v1, v2] ∧ H a = some (exo a C none) ∧ ∀ dx, H dx = none → dx ≠ a → Q .non (upd (upd (upd H dx (exd dx [(n1, v1)])) a (exo a C (some dx))) dx (exd dx [(n2, v2), (n1, v1)]))
def aRaise (C : Addr) (n1 n2 : Str) (W : PX) (fs : AbA) : AbS := fun E g m => fs g m fun ds m1 => match ds with
  | [d1, d2] => W C [(n2, d2), (n1, d1)] m1
  | _ => False
theorem as_raise {n1 n2 : Str} {W : PX} {CX : CXT} {p' : Pos} (hc : X.calm = true) (tk : Takes X (fun cls d _ H' => XW X.K S0 W cls d H')) (T : OexC X.K C) (iC : PySem.W.findIn X.K (.ref C) "__init__" = some (some (.ref f))) (tI : PySem.W.typeIn X.K (.ref f) = some (.type "function"))
    (F1 : FnOk X.prog X.w X.K X.mg X.base CX k f fd ps (spI2 n1 n2 C)) (hr : Room (k + 1) X.A) (hb : Binds X.K fd ps []) (hx : Passes CX X (fun _ _ _ => False)) (hm : X.mg x = some (.ref C)) (ha : AA X S0 (e :: es) fs) (hg : Gl X x := by rfl)
    (hdb : (x == ("__debug__" : Str)) = false := by decide) (he : starEach (e :: es) X.env = (false, eval e X.env) :: starEach es X.env := by rfl) (hpl : (backTo pos (starEach es X.env)).any (·.1) = false := by rfl) :
    AS X S0 (.Raise (some (.Call (.Name x p) (e :: es) [] pos)) none p') (aRaise C n1 n2 W fs) := by
  obtain ⟨t, pt, s⟩ := ha.ex
  refine ⟨_, ps_raise hc tk (pmk_oex T iC tI F1 hr hb .nil hx hg hm pt hdb he hpl), fun E g m h st H S1 rp e0 e1 en D ok => ?_⟩
  refine s g m _ h st H rp (e0.trans e1) en _ fun vs H1 ds m1 h1 p1 d1 => ?_
  match ds, h1 with
  | [x1, x2], h1 =>
    obtain ⟨v, w, rfl, dv, dw⟩ := den2 d1
    refine ⟨by simp, fun q hq => ⟨q, v, w, rfl, upd_same, fun dx hdx ne => ⟨rfl, dx, _, ?_, upd_same, ?_, ?_⟩⟩⟩
    · rw [upd_ne ne.symm, upd_same]
    · rw [upd_ne ne] at hdx
      exact hdx
    · rw [upd_ne ne] at hdx
      have eq : upd (del (upd (upd (upd (upd H1 q (exo q C none)) dx (exd dx [(n1, v)])) q (exo q C (some dx))) dx (exd dx [(n2, w), (n1, v)])) q) dx (.xd [(n2, w), (n1, v)]) = upd H1 dx (.xd [(n2, w), (n1, v)]) := by
        funext b
        by_cases z1 : b = dx
        · subst z1
          rw [upd_same, upd_same]
        · rw [upd_ne z1, upd_ne z1]
          by_cases z2 : b = q
          · subst z2
            rw [del_same, hq]
          · rw [del_ne z2, upd_ne z1, upd_ne z2, upd_ne z1, upd_ne z2]
      rw [eq]
      obtain ⟨p2, hR⟩ := Po.new (o := .xd [(n2, w), (n1, v)]) p1.1 hdx
      obtain ⟨md, hdd⟩ := R_of hR
      exact ⟨C, dx, _, _, m1, rfl, rfl, h1, p2.1, (e0.trans e1).trans (p1.trans p2).2, md, hdd, w, _, rfl, Den.mono p2.2 _ _ dw, v, [], rfl, Den.mono p2.2 _ _ dv, rfl⟩
end
end AL
set_option maxHeartbeats 2000000
namespace L2
open PySem PySem.Spec PyProof.Rows
section
variable {X : Cx} {pn : List (Addr × Obj)} {nx ne : Str} {cv : Value} {j : Nat} {su : List Stmt} {st0 : Stmt} {q1 q2 pos : Pos} {rest : List ExceptHandler} {tsu : Addr → Value → Option Addr → TS} {D : Ends}
/-- what is wished where 'except nx as ne' is tried: W is wished where it does not take -/
def wNext (K : PySem.W.Frag) (cv : Value) (j : Nat) (tsu : Addr → Value → Option Addr → TS) (W : WX) (D : Ends) : WX := fun cls dd st H =>
  ∃ y, PySem.W.exmOne K cls cv = some y ∧ (y = false → W cls dd st H) ∧
    (y = true → ∀ p, H p = none → tsu p cls dd ⟨fun st' H' => D.nx (st'.set j none) H', D.rt, fun st' H' => D.bk (st'.set j none) H', fun st' H' => D.ct (st'.set j none) H'⟩ (st.set j (some (.ref p))) H)
/-- an error on its way, at the clauses of a try -/
structure Onway (X : Cx) (pn : List (Addr × Obj)) (p : Addr) (B : Heap) (sI : Shared) (st : St) (H : Hp) (cls : Value) (dd : Option Addr) (s : Shared) : Prop where
  inv : Inv X pn st H sI
  nb : ∀ b o, sI.heap.get? b = some o → b ∉ frs X.stack → B.get? b = some o
  up : sI.heap.UpToSlots s.heap
  fly : PySem.HandSPX.FlyingZ B (X.env :: X.outer) p (Zc cls dd) s.heap
  new : H p = none
  os : s.os = sI.os
  bare : AllBare s.gens
theorem Onway.here {p : Addr} {B : Heap} {sI s : Shared} {st : St} {H : Hp} {cls : Value} {dd : Option Addr} (w : Onway X pn p B sI st H cls dd s) : Inv X pn st H s :=
  w.inv.landed w.nb w.fly.1 w.up w.os w.bare
theorem Onway.apart {p : Addr} {B : Heap} {sI s : Shared} {st : St} {H : Hp} {cls : Value} {dd : Option Addr} (hf : X.env.frame = some X.env.locals) (w : Onway X pn p B sI st H cls dd s) : p ≠ X.env.locals ∧ p ∉ X.fs := by
  obtain ⟨ob, vs, h1, _, h2⟩ := w.fly.there
  have no : p ∉ frs (X.env :: X.outer) := by
    intro hm
    obtain ⟨_, ob', h3, h4⟩ := w.fly.2.2.1.mem hm
    rw [h1] at h3
    cases h3
    exact h4 _ h2
  refine ⟨fun z => no (List.mem_filterMap.mpr ⟨X.env, List.mem_cons_self, by rw [hf, z]⟩), fun hm => ?_⟩
  obtain ⟨en, hen, h5⟩ := List.mem_filterMap.mp hm
  exact no (List.mem_filterMap.mpr ⟨en, List.mem_cons_of_mem _ hen, h5⟩)
theorem hb_step (hf : X.env.frame = some X.env.locals) (hN : X.N.Nodup) (hj : X.N[j]? = some ne) (hl : X.env.kindOf ne = some .local) (hc : Names X nx cv)
    (hsu : ∀ (p : Addr) (ob : Obj) (cls : Value) (dd : Option Addr) (l : List (Addr × Obj)), Zc cls dd ob → (∃ vs, ob.data = .fields vs) → PSs (X.suite p ((p, ob) :: l)) (st0 :: su) (tsu p cls dd))
    {p : Addr} {B : Heap} {sI s : Shared} {st : St} {H : Hp} {cls : Value} {dd : Option Addr} (w : Onway X pn p B sI st H cls dd s) {W : WX} (hw : wNext X.K cv j tsu W D cls dd st H)
    (hrest : W cls dd st H → wpAny (model X.prog X.w) X.A (handleBy (.ref p) X.env rest) (SP X pn D) X.xe s) :
    wpAny (model X.prog X.w) X.A (handleBy (.ref p) X.env (.ExceptHandler (some (.Name nx q1)) (some ne) (st0 :: su) q2 :: rest)) (SP X pn D) X.xe s := by
  obtain ⟨y, hy, hno, hyes⟩ := hw
  obtain ⟨nL, nF⟩ := w.apart hf
  obtain ⟨ob, vs, h1, hz, h2⟩ := w.fly.there
  have Is := w.here.suite h1 h2 w.new nL nF
  apply wpAny_handleBy_cons (codeAny_handlers_test ?_) (by intro z; cases z)
  have looks : PySem.W.Looks (model X.prog X.w) s.heap (typeOf (.ref p)) cls := by
    intro A Q E s' k z
    apply wpAny_typeOf_ref (k _ _ h1)
    rw [hz.1]
    exact z
  have asked := PySem.W.exm_one (M := model X.prog X.w) w.here.kIn looks hy
  have named : ∀ {Q E : Value → Shared → Prop}, Q cv s → wpAny (model X.prog X.w) (X.A.mark (some (.ref p))) (eval (.Name nx q1) X.env) Q E s := by
    intro Q E z
    obtain ⟨g, db, g2⟩ := hc
    rcases g2 with g2 | ⟨g2, g3, g4⟩
    · exact ld_glob (X := X.suite p ((p, ob) :: (X.pn ++ pn))) Is g g2 z db
    · exact ld_blt (X := X.suite p ((p, ob) :: (X.pn ++ pn))) Is g g2 g3 z g4 db
  apply named
  apply asked.here
  cases y with
  | false => exact hrest (hno rfl)
  | true =>
    apply codeAny_handlers_suite_as
    apply PySem.HandSPX.lands_againZ w.fly
    intro h3 fl3 up3
    have w3 : Onway X pn p B sI st H cls dd { s with heap := h3 } := ⟨w.inv, w.nb, w.up.trans up3, fl3, w.new, w.os, w.bare⟩
    obtain ⟨ob3, vs3, h13, hz3, h23⟩ := fl3.there
    have Is3 := w3.here.suite h13 h23 w.new nL nF
    refine store_ok (X := X.suite p ((p, ob3) :: (X.pn ++ pn))) (v := .ref p) Is3 hN hj (.inl hl) rfl (fun s5 I5 => ?_) (.inr hl)
    apply wpAny_mono ((hsu p ob3 cls dd (X.pn ++ pn) hz3 ⟨_, h23⟩).run [] s5 _ H _ I5 (hyes rfl p w.new)) _ (fun _ _ z => False.elim z)
    intro f s6 out
    have done : ∀ {st6 : St} {H6 : Hp} {Q : Shared → Prop}, Inv (X.suite p ((p, ob3) :: (X.pn ++ pn))) [] st6 H6 s6 → (∀ s7, Inv X pn (st6.set j none) H6 s7 → Q s7) →
        wpAny (model X.prog X.w) X.A (do bindName X.env ne .none; unbindBehindTheSuite X.env ne q2) (fun _ s7 => Q s7) X.xe s6 :=
      fun {st6 H6 Q} I6 k => gone_ok (I6.unsuite w.inv.ok) hN hj hl k
    cases f with
    | ret u =>
      obtain ⟨v6, st6, H6, I6, r6, k6⟩ := out
      exact done I6 fun s7 I7 => ⟨_, _, _, I7, r6, k6⟩
    | next =>
      obtain ⟨st6, H6, I6, k6⟩ := out
      exact done I6 fun s7 I7 => ⟨_, _, I7, k6⟩
    | brk =>
      obtain ⟨st6, H6, I6, k6⟩ := out
      exact done I6 fun s7 I7 => ⟨_, _, I7, k6⟩
    | cont =>
      obtain ⟨st6, H6, I6, k6⟩ := out
      exact done I6 fun s7 I7 => ⟨_, _, I7, k6⟩
theorem hb_end {Wout : WX} (hs : X.stack = X.env :: X.outer) (hf : X.env.frame = some X.env.locals) (tk : Takes X Wout) {p : Addr} {B : Heap} {sI s : Shared} {st : St} {H : Hp} {cls : Value} {dd : Option Addr}
    (w : Onway X pn p B sI st H cls dd s) (hw : Wout cls dd st H) : wpAny (model X.prog X.w) X.A (handleBy (.ref p) X.env []) (SP X pn D) X.xe s := by
  apply wpAny_handleBy_nil
  obtain ⟨k1, k2, k3, ob, vs, T, oT, ts', he, hz, hd, h1, hr⟩ := id w.fly
  have last : wpAny (model X.prog X.w) X.A (setFlight (.ref p) X.env.frame) (fun _ s4 => wpAny (model X.prog X.w) X.A (throw (.ref p) : Sem Flow) (SP X pn D) X.xe s4) X.xe s := by
    rw [hf]
    apply PySem.HandSPX.setFlight_upZ w.fly
    intro h4 hh4 up4
    apply wpAny_throw
    apply tk
    exact ⟨p, B, sI, pn, st, H, cls, dd, rfl, w.inv, w.nb, w.up.trans up4, .inr (.inr (by rw [hs]; exact hh4)), w.new, w.os, w.bare, hw⟩
  unfold PySem.passOn
  apply wpAny_bind (wpAny_field he hd h1 ?_)
  rw [if_neg (show ¬ ((Value.ref T == Value.none) = true) from by simp)]
  first
    | exact wpAny_bind (wpAny_pure (wpAny_bind last))
    | exact wpAny_bind last
/-- try: body / clauses: what the clauses do is shown apart -/
theorem ps_try_by {body : List Stmt} {hd0 : ExceptHandler} {hds : List ExceptHandler} {tb : WX → TS} {Wc : Ends → WX} (hs : X.stack = X.env :: X.outer) (hf : X.env.frame = some X.env.locals)
    (hb : ∀ (W : WX) (l : List (Addr × Obj)) (xe : Value → Shared → Prop), Takes (X.tr l xe) W → PassesOwn (model X.prog X.w) X.A X.env xe → PSs (X.tr l xe) body (tb W))
    (hh : ∀ (pn : List (Addr × Obj)) (D : Ends) (p : Addr) (B : Heap) (sI s : Shared) (st : St) (H : Hp) (cls : Value) (dd : Option Addr), Onway X pn p B sI st H cls dd s → Wc D cls dd st H →
      wpAny (model X.prog X.w) X.A (handleBy (.ref p) X.env (hd0 :: hds)) (SP X pn D) X.xe s) : PS X (.Try body (hd0 :: hds) [] [] pos) (fun D st H => tb (Wc D) D st H) := by
  constructor
  intro pn s st H D I h
  have ok := I.ok
  have fr : X.A.frames = some (X.env :: X.outer) := by rw [ok.frames, hs]
  apply wpAny_Try_except
  apply wpAny_mono ((hb (Wc D) (X.pn ++ pn) _ (fun u s' hx => ?_) PassesOwn.looking).run [] s st H D (I.toTry _) h) _ (fun e s1 z => z)
  · intro f s1 out
    cases f with
    | ret u =>
      obtain ⟨v, st', H', I', r, k⟩ := out
      exact ⟨v, st', H', I'.ofTry ok, r, k⟩
    | next =>
      obtain ⟨st', H', I', k⟩ := out
      exact wpAny_execs_nil ⟨st', H', I'.ofTry ok, k⟩
    | brk =>
      obtain ⟨st', H', I', k⟩ := out
      exact ⟨st', H', I'.ofTry ok, k⟩
    | cont =>
      obtain ⟨st', H', I', k⟩ := out
      exact ⟨st', H', I'.ofTry ok, k⟩
  · obtain ⟨p, B, sI, l, st', H', cls, dd, rfl, J', nb, up, sky, na, os, ag, hw⟩ := hx
    have sky' : Sky B (X.env :: X.outer) p (Zc cls dd) X.env.locals s'.heap := by rw [← hs]; exact sky
    show wpAny (model X.prog X.w) X.A (noteFrame (.ref p) X.env) _ _ _
    apply Sky.land Zc.steady fr hf sky'
    intro h3 fl3 up3
    exact hh pn D p B sI _ st' H' cls dd ⟨J'.ofTry ok, nb, up.trans up3, fl3, na, os, ag⟩ hw
end
end L2
set_option maxHeartbeats 2000000
namespace PySem.W
open PySem PySem.Spec PySem.Calls PyProof.Rows
section
variable {K : Frag} {Cl : Addr} {own : Option Obj}
theorem found_data {nm : Str} {at0 gt : Value} (h1 : (clsIn K Cl).isSome = true) (h2 : findIn K (.ref Cl) nm = some (some at0)) (h3 : specialIn K at0 "__get__" = some (some gt)) (h4 : takesIn K at0 = some true) :
    findObj K Cl own nm = some (.bind gt at0) := by
  obtain ⟨cd, hcd⟩ := Option.isSome_iff_exists.mp h1
  simp [findObj, hcd, h2, h3, h4]
/-- what must be so of a class of errors -/
structure ErC (K : Frag) (Cl : Addr) : Prop where
  ga : findIn K (.ref Cl) "__getattribute__" = some (some (.builtin "BaseException.__getattribute__"))
  gt : findIn K (.ref Cl) "__getattr__" = some none
  be : subIn K (.ref Cl) (.type "BaseException") = some true
  di : hasDictIn K Cl = true
  ca : findIn K (.ref Cl) "__class__" = some (some (.builtin "object.__class__"))
  sg : specialIn K (.builtin "object.__class__") "__get__" = some (some (.builtin "getset_descriptor.__get__"))
  tk : takesIn K (.builtin "object.__class__") = some true
  ob : mroIn K Cl (.type "object") = some true
theorem er_class {prog : Program} {w : World} {A : Around} {E : Value → Shared → Prop} {s : Shared} {x : Addr} {o : Obj} {Q : Option Value → Shared → Prop} (T : ErC K Cl) (X : K.In s.heap) (I : InstAt s.heap x o Cl own) (h : Q (some (.ref Cl)) { s with toks := s.toks + 1 }) :
    wpAny (model prog w) A (getAttr? (.ref x) "__class__") Q E s := by
  have some_cls : (clsIn K Cl).isSome = true := by
    obtain ⟨cd, z, _⟩ := any_some T.di
    rw [z]
    rfl
  have fo : findObj K Cl own "__class__" = some (.bind (.builtin "getset_descriptor.__get__") (.builtin "object.__class__")) := found_data some_cls T.ca T.sg T.tk
  obtain ⟨hp, gs, dr, tk, os⟩ := s
  have a0 := I.type (M := model prog w)
  have a1 := looks_findIn (M := model prog w) X T.ga
  have a2 := looks_findIn (M := model prog w) X T.gt
  have a3 := looks_find (M := model prog w) X I fo
  have isx : Looks (model prog w) hp (isInstance (.ref x) (.type "BaseException")) true := a0.andThen (looks_subIn X T.be)
  have b0 : (false && onTheHeap (Value.builtin "BaseException.__getattribute__")) = false := rfl
  have b1 : (onTheHeap (Value.ref Cl) && Value.builtin "BaseException.__getattribute__" == Value.builtin "object.__getattribute__") = false := by
    rw [show (Value.builtin "BaseException.__getattribute__" == Value.builtin "object.__getattribute__") = false by decide +kernel]
    rfl
  unfold getAttr? getAttrBy? getAttrBy
  refine wpAny_bind (wpAny_mkText ?_)
  refine wpAny_bind (wpAny_attempt (wpAny_holding ?_))
  refine wpAny_bind (a0.at ?_)
  refine wpAny_bind (a1.at ?_)
  show wpAny _ _ (if (onTheHeap (Value.ref Cl) && Value.builtin "BaseException.__getattribute__" == Value.builtin "object.__getattribute__") = true
    then _ else _) _ _ _
  rw [b1, if_neg Bool.false_ne_true]
  unfold getAttrByItsOwn hookBefore
  refine wpAny_bind ?_
  rw [if_pos (show onTheHeap (Value.ref Cl) = true from rfl)]
  refine a2.at ?_
  refine wpAny_bind (wpAny_attempt (wpAny_holding ?_))
  unfold callGetattribute
  rw [b0, if_neg Bool.false_ne_true]
  unfold boundAndCalled
  rw [PySem.F.excAttr_ValueError.ga.bind (.ref x)]
  refine wpAny_bind (wpAny_pure ?_)
  show wpAny _ _ (call (.builtin "BaseException.__getattribute__")
    [.ref x, .str "__class__" tk]) _ _ _
  refine wpAny_call (codeAny_call_builtin PySem.F.excAttr_ValueError.ga.plain PySem.F.entry_bexc_ga ?_)
  refine @check_slot (model prog w) _ _ ⟨hp, gs, dr, tk + 1, os⟩ "BaseException.__getattribute__" "BaseException" "__getattribute__" (.ref x)
    [.str "__class__" tk] [] _ (by decide +kernel) (by decide +kernel) isx (PySem.F.args_bexc_ga (.ref x) (.str "__class__" tk)) ?_
  unfold Builtin.«object.__getattribute__»
  refine wpAny_bind (wpAny_of_eq (a := ((Value.ref x : Value), [Value.str "__class__" tk])) (by first | rfl | (simp only [slotArgs]; rfl)) ?_)
  refine wpAny_bind (wpAny_pure ?_)
  refine wpAny_bind (a0.at ?_)
  refine wpAny_bind (a3.at ?_)
  show wpAny _ _ (holding [Value.builtin "object.__class__"]
    (call (.builtin "getset_descriptor.__get__") [.builtin "object.__class__", .ref x, .ref Cl]) >>= ret) _ _ _
  refine wpAny_bind (wpAny_holding (wpAny_call ?_))
  refine class_get (s := ⟨hp, gs, dr, tk + 1, os⟩) (ox := o) (od := own) X I T.ob ?_
  refine wpAny_pure ?_
  show wpAny _ _ (handedOut (.ref Cl)) _ _ _
  rw [handedOut_of (v := .ref Cl) rfl]
  first
    | exact wpAny_pure (wpAny_pure h)
    | exact wpAny_pure h
    | exact wpAny_pure (wpAny_bind (wpAny_pure (wpAny_pure h)))
theorem kit_err {x : Addr} {o : Obj} (T : ErC K Cl) : KitX K (.ref x) (.ref Cl) (fun h => InstAt h x o Cl own) where
  ty := fun _ _ _ I => I.type
  it := by
    intro M h X _
    obtain ⟨cd, z, _⟩ := any_some T.di
    unfold clsIn at z
    split at z
    · rename_i ho
      intro A' Q' E' s' k q
      unfold isType loadHead
      exact wpAny_bind (wpAny_loadPart (k _ _ (X _ _ ho))
        (wpAny_pure q))
    · cases z
  ne := by
    intro h tp dd its n sl X htp
    apply Bool.eq_false_iff.mpr
    intro q
    have same : Cl = tp := Value.ref.inj (beq_iff_eq.mp q)
    subst same
    obtain ⟨cd, z, _⟩ := any_some T.di
    unfold clsIn at z
    split at z
    · rename_i ho
      have two := (X _ _ ho).symm.trans htp
      cases two
    · cases z
  ca := fun X I k => er_class T X I k
end
end PySem.W
namespace L2
open PySem PySem.Spec PyProof.Rows
/-- isinstance(e, c) of the error that a suite holds, its dict made -/
def rIsX (K : PySem.W.Frag) (Cl p : Addr) : List V → Hp → VK → Prop := fun xs H Q => ∃ (c : V) (u : Value) (b : Bool), xs = [.ref p, c] ∧ (∀ z, RelV c z → z = u) ∧ PySem.W.kitOne K (.ref Cl) u = some b ∧ Q (.bl b) H
theorem call_isX {X : Cx} {p Cl dd : Addr} {ob : Obj} {l : List (Addr × Obj)} (T : PySem.W.ErC X.K Cl) (hz : Zc (.ref Cl) (some dd) ob) (hf : ∃ vs, ob.data = .fields vs) :
    CallR (X.suite p ((p, ob) :: l)) (.builtin "isinstance") (fun xs H Q => (∃ fs, H dd = some (.xd fs)) ∧ rIsX X.K Cl p xs H Q) := by
  intro pn s st H xs us Q I r h
  obtain ⟨⟨fs, hx⟩, c, u, b, rfl, hu, e, q⟩ := h
  obtain ⟨u1, u2, rfl, r1, r2⟩ := vals2 r
  cases r1
  have e2 := hu _ r2
  subst e2
  obtain ⟨hget, _⟩ := I.pin (p, ob) (List.mem_append.mpr (.inl List.mem_cons_self))
  obtain ⟨vs, hv⟩ := hf
  obtain ⟨mA, ⟨od, es, ep, ho, hd, _⟩, _⟩ := (show ObjOk X.prog X.w H s.heap dd (.xd fs) from I.hok dd _ hx)
  have J : PySem.W.InstAt s.heap p ob Cl (some od) := by
    refine ⟨hget, hz.1, by unfold PySem.W.notCls; rw [hv] <;> rfl, ?_⟩
    rw [hz.2]
    exact ho
  exact PySem.W.kia_one (PySem.W.kit_err T) I.kIn J e (fun z => nomatch z) fun tk => ⟨.bl b, H, I.kept (t' := tk) fun _ _ z => z, rfl, q⟩
end L2
set_option maxHeartbeats 2000000
namespace AL
open PySem L2 Evl
section
variable {X : Cx} {S0 : Hp} {a b c e o : Expr} {es : List Expr} {fa fb fc fo fe fi : Ab} {fs fr : AbA} {pos p1 p2 : Pos} {x nm : Str}
/-- what stands in a suite that holds the error p, of the class C, with its dict at dd -/
structure InSuite (X : Cx) (S0 : Hp) (p C dd : Addr) (ob : Obj) (l : List (Addr × Obj)) (fs : List (Str × D)) : Prop where
  z : Zc (.ref C) (some dd) ob
  f : ∃ vs, ob.data = .fields vs
  d : ∃ gs, S0 dd = some (.xd gs) ∧ DenF X.K S0 fs gs
theorem InSuite.at {p C dd : Addr} {ob : Obj} {l : List (Addr × Obj)} {fs : List (Str × D)} (h : InSuite X S0 p C dd ob l fs) {m : Mu} {H : Hp} (e : Ex S0 (R m H)) : ∃ gs, H dd = some (.xd gs) ∧ DenF X.K (R m H) fs gs := by
  obtain ⟨gs, h1, h2⟩ := h.d
  exact ⟨gs, (R_of (e dd _ h1)).2, DenF.mono e _ _ h2⟩
/-- e.f -/
def aXf (p : Addr) (fs : List (Str × D)) (f : Str) (fo : Ab) : Ab := fun g m P => fo g m fun x m1 => match x with
  | .box q => q = p ∧ match fs.lookup f with
    | some d => P d m1
    | none => False
  | _ => False
theorem ae_xf {p C dd : Addr} {ob : Obj} {l : List (Addr × Obj)} {ff : List (Str × D)} (I : InSuite X S0 p C dd ob l ff) (T : XfC X.K C) (hno : PySem.W.findIn X.K (.ref C) nm = some none) (ho : AE (X.suite p ((p, ob) :: l)) S0 o fo)
    (hb : attributeBase o nm X.env (eval o X.env) = eval o X.env := by rfl) : AE (X.suite p ((p, ob) :: l)) S0 (.Attribute o nm pos) (aXf p ff nm fo) := by
  obtain ⟨to, po, qo⟩ := ho.ex
  refine ⟨_, pe_xf T hno I.z I.f po hb, fun g m P h st H rp e0 en Q q => qo g m _ h st H rp e0 en _ fun v H1 y m1 h1 q1 d1 => ?_⟩
  cases y <;> first | exact (show False from h1).elim | skip
  cases d1
  obtain ⟨rfl, h1⟩ := h1
  obtain ⟨gs, hd, df⟩ := I.at (e0.trans q1.2)
  have h1 : (match ff.lookup nm with
    | some d => P d m1
    | none => False) := h1
  cases lk : ff.lookup nm with
  | none =>
    rw [lk] at h1
    exact h1.elim
  | some d =>
    rw [lk] at h1
    obtain ⟨w, hw, dw⟩ := df.look lk
    exact ⟨rfl, rfl, dd, gs, w, rfl, hd, hw, q w H1 d m1 h1 q1 dw⟩
/-- isinstance(e, C2) -/
def fIsX (p C2 : Addr) (b : Bool) : List D → Mu → PD → Prop := fun xs m P => match xs with
  | [.box q, .box r] => q = p ∧ r = C2 ∧ P (.bl b) m
  | _ => False
theorem ae_isX {p C C2 dd : Addr} {ob : Obj} {l : List (Addr × Obj)} {ff : List (Str × D)} {b : Bool} {q : Pos} (I : InSuite X S0 p C dd ob l ff) (T : PySem.W.ErC X.K C) (hk : PySem.W.kitOne X.K (.ref C) (.ref C2) = some b) (hm : X.mg "isinstance" = none) (ha : AA (X.suite p ((p, ob) :: l)) S0 (e :: es) fs)
    (hg : Gl X "isinstance" := by rfl) (he : starEach (e :: es) X.env = (false, eval e X.env) :: starEach es X.env := by rfl) (hpl : (backTo pos (starEach es X.env)).any (·.1) = false := by rfl) :
    AE (X.suite p ((p, ob) :: l)) S0 (.Call (.Name "isinstance" q) (e :: es) [] pos) (aCa (fIsX p C2 b) fs) := by
  obtain ⟨t, pt, s⟩ := ha.ex
  refine ⟨_, pe_callB (call_isX T I.z I.f) hg hm (by decide +kernel) pt (by decide) (by decide) he hpl, fun g m P h st H rp e0 en Q q => s g m _ h st H rp e0 en _ fun vs H1 ds m1 h1 q1 d1 => ?_⟩
  match ds, h1 with
  | [.box q', .box r'], h2 =>
    obtain ⟨rfl, rfl, h3⟩ := h2
    obtain ⟨v, w, rfl, dv, dw⟩ := den2 d1
    cases dv
    cases dw
    obtain ⟨gs, hd, _⟩ := I.at (e0.trans q1.2)
    exact ⟨⟨gs, hd⟩, .ref r', .ref r', b, rfl, fun z hz => hz, hk, q _ H1 _ m1 h3 q1 rfl⟩
/-- a suite, whatever error it holds -/
theorem suite_all {su : List Stmt} {C : Addr} {s : Addr → List (Str × D) → AbS} (h : ∀ (p dd : Addr) (ob : Obj) (l : List (Addr × Obj)) (S0 : Hp) (fs : List (Str × D)), InSuite X S0 p C dd ob l fs → AB (X.suite p ((p, ob) :: l)) S0 su (s p fs)) :
    ∃ tsu : Addr → Value → Option Addr → TS, (∀ (p : Addr) (ob : Obj) (cls : Value) (dd : Option Addr) (l : List (Addr × Obj)), Zc cls dd ob → (∃ vs, ob.data = .fields vs) → PSs (X.suite p ((p, ob) :: l)) su (tsu p cls dd)) ∧
      ∀ (p dd : Addr) (fs : List (Str × D)) (gs : List (Str × V)) (S0 : Hp) (E : AEn) (g : Sl) (m : Mu), S0 dd = some (.xd gs) → DenF X.K S0 fs gs → s p fs E g m → WS X.K S0 (tsu p (.ref C) (some dd)) E g m := by
  refine ⟨fun p cls od Dn st H => ∀ (ob : Obj) (l : List (Addr × Obj)), Zc cls od ob → (∃ vs, ob.data = .fields vs) → ∃ (dd : Addr) (S0 : Hp) (fs : List (Str × D)) (I : InSuite X S0 p C dd ob l fs), Classical.choose (h p dd ob l S0 fs I).ex Dn st H,
    fun p ob cls od l hz hf => ⟨fun pins s0 st H D I0 hw => ?_⟩, fun p dd fs gs S0 E g m hd df hs st H S1 rp e0 e1 en D ok ob l hz hf => ?_⟩
  · obtain ⟨dd, S0, fs, I, ht⟩ := hw ob l hz hf
    exact (Classical.choose_spec (h p dd ob l S0 fs I).ex).1.run pins s0 st H D I0 ht
  · have I : InSuite X S0 p C dd ob l fs := ⟨hz, hf, gs, hd, df⟩
    exact ⟨dd, S0, fs, I, (Classical.choose_spec (h p dd ob l S0 fs I).ex).2 E g m hs st H S1 rp e0 e1 en D ok⟩
/-! ### try: body / except C1 as e: suite that returns / .. -/
theorem takes_len {W W' : L2.WX} (t : Takes X W) (h : ∀ cls d st H, st.length = X.N.length → W' cls d st H → W cls d st H) : Takes X W' := by
  intro u s' hx
  obtain ⟨q, B, sI, pins, st, H, cls, d, h1, I, h2, h3, h4, h5, h6, h7, w⟩ := hx
  exact t u s' ⟨q, B, sI, pins, st, H, cls, d, h1, I, h2, h3, h4, h5, h6, h7, h cls d st H I.len w⟩
/-- the slots within a suite: the error's alone is known -/
def onlyE (n j : Nat) (p : Addr) : Sl := put (List.replicate n none) j (some (.box p))
/-- one clause: its class, what its suite does -/
structure Cl1 where
  C : Addr
  j : Nat
  s : Addr → List (Str × D) → AbS
def wTry (K : PySem.W.Frag) (n : Nat) (E : AEn) (Wout : PX) : List Cl1 → PX
  | [] => Wout
  | k :: r => fun C fs m => (C = k.C ∧ ∀ p, k.s p fs ⟨fun _ _ => False, E.rt, fun _ _ => False, fun _ _ => False⟩ (onlyE n k.j p) m) ∨ (PySem.W.exmOne K (.ref C) (.ref k.C) = some false ∧ wTry K n E Wout r C fs m)
def aTry (K : PySem.W.Frag) (n : Nat) (Wout : PX) (l : List Cl1) (sb : PX → AbS) : AbS := fun E g m => sb (wTry K n E Wout l) { nx := fun g' m' => E.nx g' m', rt := E.rt, bk := E.bk, ct := E.ct } g m
/-- the clauses of the text, each with its suite read -/
inductive ClOk (X : Cx) : List ExceptHandler → List Cl1 → Prop
  | nil : ClOk X [] []
  | cons {k : Cl1} {nx ne : Str} {su : List Stmt} {st0 : Stmt} {q1 q2 : Pos} {hds : List ExceptHandler} {l : List Cl1} (hc : Names X nx (.ref k.C)) (hj : X.N[k.j]? = some ne) (hl : X.env.kindOf ne = some .local) (me : PySem.W.exmOne X.K (.ref k.C) (.ref k.C) = some true)
      (hsu : ∀ (p dd : Addr) (ob : Obj) (l : List (Addr × Obj)) (S0 : Hp) (fs : List (Str × D)), InSuite X S0 p k.C dd ob l fs → AB (X.suite p ((p, ob) :: l)) S0 (st0 :: su) (k.s p fs)) (r : ClOk X hds l) :
      ClOk X (.ExceptHandler (some (.Name nx q1)) (some ne) (st0 :: su) q2 :: hds) (k :: l)
/-- what is to be shown at the clauses, and that it is enough -/
theorem clauses {Wout : PX} (hs : X.stack = X.env :: X.outer) (hf : X.env.frame = some X.env.locals) (hN : X.N.Nodup) (tk : Takes X (fun cls d _ H => XW X.K S0 Wout cls d H)) {hds : List ExceptHandler} {l : List Cl1} (h : ClOk X hds l) :
    ∃ Wc : Ends → L2.WX, (∀ (pn : List (Addr × Obj)) (D : Ends) (p : Addr) (B : Heap) (sI s : Shared) (st : L2.St) (H : Hp) (cls : Value) (dd : Option Addr), Onway X pn p B sI st H cls dd s → Wc D cls dd st H → wpAny (model X.prog X.w) X.A (handleBy (.ref p) X.env hds) (SP X pn D) X.xe s) ∧
      ∀ (E : AEn) (S1 : Hp) (D : Ends) (cls : Value) (d : Option Addr) (st : L2.St) (H : Hp), Ex S0 S1 → EndOk X.K S1 E D → st.length = X.N.length → XW X.K S1 (wTry X.K X.N.length E Wout l) cls d H → Wc D cls d st H := by
  induction h with
  | nil => exact ⟨fun _ cls d _ H => XW X.K S0 Wout cls d H, fun pn D p B sI s st H cls dd w hw => hb_end hs hf tk w hw, fun E S1 D cls d st H e0 ok hl hx => xw_mono e0 hx⟩
  | @cons k nx ne su st0 q1 q2 hds l hc hj hl me hsu r ih =>
    obtain ⟨Wr, r1, r2⟩ := ih
    obtain ⟨tsu, t1, t2⟩ := suite_all hsu
    refine ⟨fun D => wNext X.K (.ref k.C) k.j tsu (Wr D) D, fun pn D p B sI s st H cls dd w hw => hb_step hf hN hj hl hc t1 w hw fun z => r1 pn D p B sI s st H cls dd w z, fun E S1 D cls d st H e0 ok hlen hx => ?_⟩
    obtain ⟨C, dd, fs, gs, m, rfl, rfl, hw, rp, e1, md, hd, df⟩ := hx
    rcases hw with ⟨rfl, hw⟩ | ⟨hn, hw⟩
    · refine ⟨true, me, ⟨fun z => (by cases z), fun _ p hp => ?_⟩⟩
      have hR : R m H dd = some (.xd gs) := by rw [R_none md]; exact hd
      have blank : ∀ (us : L2.St), Env X.K (R m H) (List.replicate us.length none) us := fun us => by
        induction us with
        | nil => rfl
        | cons u us ihu => exact ⟨u, us, rfl, fun d q => (by cases q), ihu⟩
      have en : Env X.K (R m H) (onlyE X.N.length k.j p) (st.set k.j (some (.ref p))) := by
        unfold onlyE
        rw [← hlen]
        exact (blank st).put rfl
      refine t2 p dd fs gs (R m H) _ _ m hR df (hw p) _ H (R m H) rp (Ex.refl _) (Ex.refl _) en _ ⟨fun _ _ _ _ z => z.elim, fun d' m' v' H' z r' x' dv' => ok.rt d' m' v' H' z r' (e1.trans x') dv', fun _ _ _ _ z => z.elim, fun _ _ _ _ z => z.elim⟩
    · exact ⟨false, hn, fun _ => r2 E S1 D (.ref C) (some dd) st H e0 ok hlen ⟨C, dd, fs, gs, m, rfl, rfl, hw, rp, e1, md, hd, df⟩, fun z => (by cases z)⟩
theorem as_try {Wout : PX} {hd0 : ExceptHandler} {hds : List ExceptHandler} {l : List Cl1} {body : List Stmt} {sb : PX → AbS} (hs : X.stack = X.env :: X.outer) (hf : X.env.frame = some X.env.locals) (hN : X.N.Nodup) (tk : Takes X (fun cls d _ H => XW X.K S0 Wout cls d H)) (h : ClOk X (hd0 :: hds) l)
    (hb : ∀ (l : List (Addr × Obj)) (xe : Value → Shared → Prop) (S : Hp) (W : PX), Takes (X.tr l xe) (fun cls d _ H => XW X.K S W cls d H) → PassesOwn (model X.prog X.w) X.A X.env xe → AB (X.tr l xe) S body (sb W)) : AS X S0 (.Try body (hd0 :: hds) [] [] pos) (aTry X.K X.N.length Wout l sb) := by
  obtain ⟨Wc, c1, c2⟩ := clauses hs hf hN tk h
  have body_ok : ∀ (W : L2.WX) (l : List (Addr × Obj)) (xe : Value → Shared → Prop), Takes (X.tr l xe) W → PassesOwn (model X.prog X.w) X.A X.env xe →
      PSs (X.tr l xe) body (fun D st H => ∀ (l : List (Addr × Obj)) (xe : Value → Shared → Prop) (t : Takes (X.tr l xe) W) (po : PassesOwn (model X.prog X.w) X.A X.env xe), ∃ (S : Hp) (Wp : PX) (hw : ∀ cls d st' H', st'.length = X.N.length → XW X.K S Wp cls d H' → W cls d st' H'), Classical.choose (hb l xe S Wp (takes_len t hw) po).ex D st H) := by
    intro W l xe t po
    constructor
    intro pins s st H D I hw
    obtain ⟨S, Wp, hw1, ht⟩ := hw l xe t po
    exact (Classical.choose_spec (hb l xe S Wp (takes_len t hw1) po).ex).1.run pins s st H D I ht
  refine ⟨_, ps_try_by hs hf body_ok c1, fun E g m h st H S1 rp e0 e1 en D ok => ?_⟩
  intro l' xe t po
  have hw : ∀ cls d st' H', st'.length = X.N.length → XW X.K S1 (wTry X.K X.N.length E Wout l) cls d H' → Wc D cls d st' H' := fun cls d st' H' hl hx => c2 E S1 D cls d st' H' e0 ok hl hx
  exact ⟨S1, wTry X.K X.N.length E Wout l, hw, (Classical.choose_spec (hb l' xe S1 _ (takes_len t hw) po).ex).2 _ g m h st H S1 rp (Ex.refl _) e1 en D ok⟩
end
end AL
set_option maxHeartbeats 2000000
namespace AL
open PySem L2 Evl
/-- a name of the module that holds data -/
structure Glo (K : PySem.W.Frag) (mg : Str → Option Value) (x : Str) (d : D) : Prop where
  ex : ∃ (u : Value) (v : V), mg x = some u ∧ RelV v u ∧ ∀ S, Den K S d v
/-- no name of the module hides these -/
structure Bl (mg : Str → Option Value) : Prop where
  len : mg "len" = none
  int : mg "int" = none
  abs : mg "abs" = none
  max : mg "max" = none
  min : mg "min" = none
  bool : mg "bool" = none
  str : mg "str" = none
  tuple : mg "tuple" = none
  list : mg "list" = none
  range : mg "range" = none
  isi : mg "isinstance" = none
def onlyK {α : Type} : List α → List α → List α
  | [], ws => ws
  | _ :: _, _ => []
/-- a def that callers use: it keeps sp -/
structure Cal (P : Program) (w : World) (K : PySem.W.Frag) (mg : Str → Option Value) (base : Heap) (k : Nat) (x : Str) (ps : List Str) (sp : ASp) : Prop where
  ex : ∃ (f : Addr) (fd : FuncData), FnOk P w K mg base (L2.CX P w) k f fd ps (lift K sp) ∧ mg x = some (.ref f) ∧ PySem.W.keepIn K (.ref f) = true ∧ Binds K fd ps [] ∧ KBinds K fd ps ps onlyK onlyK
section
variable {X : Cx} {S0 : Hp} {a b c e o elt : Expr} {es ifs : List Expr} {kws : List Keyword} {fa fb fc fo fe fi : Ab} {ft fu : AbT} {fs fr : AbA} {pos apos p : Pos} {k : Nat} {sp : ASp} {x : Str} {K : PySem.W.Frag} {ps : List Str} {scope : Scope} {own : List (Str × Nat)}
theorem ae_glo {d : D} (G : Glo X.K X.mg x d) (hg : Gl X x := by rfl) (hd : (x == ("__debug__" : Str)) = false := by decide) : AE X S0 (.Name x pos) (aC d) := by
  obtain ⟨u, v, h1, h2, h3⟩ := G.ex
  exact ae_const d (pe_glob hg h1 h2 hd) h3
theorem ae_ty {x : Str} (T : String) (hm : X.mg x = none) (hv : bootBuiltins x = some (.type T)) (hg : Gl X x := by rfl) (hn : x ≠ "__name__" := by decide) (hd : (x == ("__debug__" : Str)) = false := by decide) : AE X S0 (.Name x pos) (aC (.ty T)) :=
  ae_const (.ty T) (pe_bltn (v := .ty T) hg hm hv rfl hn hd) fun _ => rfl
theorem ae_i {n : Int} {k : Nat} : AE X S0 (.Constant (.int n) k pos) (aC (.int n)) := ae_const _ pe_int fun _ => rfl
theorem ae_s {z : Str} {k : Nat} : AE X S0 (.Constant (.str z) k pos) (aC (.str z)) := ae_const _ pe_str fun _ => rfl
theorem ae_b {z : Bool} {k : Nat} : AE X S0 (.Constant (.bool z) k pos) (aC (.bl z)) := ae_const _ pe_bl fun _ => rfl
theorem ae_n {k : Nat} : AE X S0 (.Constant .none k pos) (aC .non) := ae_const _ pe_non fun _ => rfl
theorem at_b {z : Bool} {k : Nat} : AT X S0 (.Constant (.bool z) k pos) (aTest (aC (.bl z))) := by
  refine ⟨_, pt_val pe_bl, fun g m P h st H rp e0 en Q q => ?_⟩
  exact ⟨z, rfl, q z H m h (Po.refl rp)⟩
def fPow := fI2 (fun i j => .int (i ^ j.toNat)) CPow
theorem ae_pow (ha : AE X S0 a fa) (hb : AE X S0 b fb) : AE X S0 (.BinOp a .Pow b pos) (aOp fPow fa fb) := ae_op op_pow (opA_I fun _ _ _ => rfl) ha hb
def fAbs : List D → Mu → PD → Prop := fun xs m P => match xs with
  | [.int i] => P (.int (if i < 0 then -i else i)) m
  | _ => False
theorem caA_abs : CaA K (fun xs H Q => ∃ i, xs = [V.int i] ∧ Q (.int (if i < 0 then -i else i)) H) fAbs := fun xs m P h vs H rp dl Q q => by
  match xs, h with
  | [.int i], h =>
    obtain ⟨v, rfl, dv⟩ := den1 dl
    cases dv
    exact ⟨i, rfl, q _ H _ m h (Po.refl rp) rfl⟩
theorem ae_abs {p : Pos} (hm : X.mg "abs" = none) (ha : AA X S0 (e :: es) fs) (hg : Gl X "abs" := by rfl) (he : starEach (e :: es) X.env = (false, eval e X.env) :: starEach es X.env := by rfl) (hpl : (backTo pos (starEach es X.env)).any (·.1) = false := by rfl) :
    AE X S0 (.Call (.Name "abs" p) (e :: es) [] pos) (aCa fAbs fs) := ae_cb call_abs caA_abs hg hm (by decide +kernel) ha (by decide) (by decide) he hpl
/-- xs[::-1], a list that may change -/
def aRevB (fa : Ab) : Ab := fun g m P => fa g m fun x m1 => match lstOf m1 x with
  | some ds => ∀ p, m1 p = none → P (.box p) (mset m1 p (.lst ds.reverse))
  | none => False
theorem ae_revB {p1 p2 p3 p4 : Pos} {kk : Nat} (ha : AE X S0 a fa) : AE X S0 (.Subscript a (.Slice none none (some (.UnaryOp .USub (.Constant (.int 1) kk p1) p2)) p3) p4) (aRevB fa) := by
  obtain ⟨t, pt, s⟩ := ha.ex
  refine ⟨_, pe_revL pt, fun g m P h st H rp e0 en Q q => s g m _ h st H rp e0 en _ fun v H1 d m1 h1 p1 d1 => ?_⟩
  cases e : lstOf m1 d with
  | none =>
    rw [e] at h1
    exact h1.elim
  | some ds =>
    rw [e] at h1
    obtain ⟨r, vs, rfl, hv, dv⟩ := lst_den p1.1 d1 e
    refine ⟨r, vs, rfl, sq_of hv, fun l hl => ?_⟩
    exact q _ _ (.box l) _ (h1 l (p1.1.fresh hl)) (p1.trans (Po.newL p1.1 hl dv.rev)) rfl
/-! ### calls -/
theorem ae_cal (G : Cal X.prog X.w X.K X.mg X.base k x ps sp) (hr : Room k X.A) (ha : AA X S0 (e :: es) fs) (hg : Gl X x := by rfl) (hdb : (x == ("__debug__" : Str)) = false := by decide)
    (he : starEach (e :: es) X.env = (false, eval e X.env) :: starEach es X.env := by rfl) (hpl : (backTo pos (starEach es X.env)).any (·.1) = false := by rfl) : AE X S0 (.Call (.Name x p) (e :: es) [] pos) (aCall sp fs) := by
  obtain ⟨f, fd, F, hm, hk, hb, _⟩ := G.ex
  exact ae_call F hr hm hk hb ha hg hdb he hpl
theorem ae_calX {W : PX} (tk : Takes X (fun cls d _ H' => XW X.K S0 W cls d H')) (G : Cal X.prog X.w X.K X.mg X.base k x ps sp) (hr : Room k X.A) (ha : AA X S0 (e :: es) fs) (hg : Gl X x := by rfl) (hdb : (x == ("__debug__" : Str)) = false := by decide)
    (he : starEach (e :: es) X.env = (false, eval e X.env) :: starEach es X.env := by rfl) (hpl : (backTo pos (starEach es X.env)).any (·.1) = false := by rfl) : AE X S0 (.Call (.Name x p) (e :: es) [] pos) (aCallX W sp fs) := by
  obtain ⟨f, fd, F, hm, hk, hb, _⟩ := G.ex
  exact ae_callX tk F hr hm hk hb ha hg hdb he hpl
/-- f(x=e): all by keywords in the parameters' order -/
theorem ae_calK (G : Cal X.prog X.w X.K X.mg X.base k x ps sp) (hr : Room k X.A) (ha : AK X S0 kws fs)
    (hg : Gl X x := by rfl) (hdb : (x == ("__debug__" : Str)) = false := by decide) (hall : (backToKw pos (keywordEach kws X.env)).all (·.1.isSome) = true := by rfl) (hks : (backToKw pos (keywordEach kws X.env)).filterMap (·.1) = ps := by rfl)
    (hpl : ((backTo pos (starEach [] X.env)).any (·.1) || (backToKw pos (keywordEach kws X.env)).any (·.1.isNone)) = false := by rfl) : AE X S0 (.Call (.Name x p) [] kws pos) (aCall sp fs) := by
  obtain ⟨f, fd, F, hm, hk, _, hb⟩ := G.ex
  obtain ⟨t, pt, s⟩ := ha.ex
  refine ⟨fun st H Q => t st H fun vs H1 => lift X.K sp vs H1 Q E0, ⟨fun pins s0 st H Q I h => ?_⟩, fun g m P h st H rp e0 en Q q => ?_⟩
  · refine wpAny_Call_Name_kw (ld_glob I hg hm ?_ hdb)
    refine PySem.W.callWith_KW0 (h₀ := X.base) I.ok.mod.kin hk hall ?_ hpl
    refine thn (pt.run pos pins s0 st H _ I h) ?_
    rintro ws s2 ⟨zs, H2, I2, rz, q2⟩
    refine ⟨I2.kIn, ?_⟩
    rw [hks]
    exact run_fnk F hr hb passL I2 .nil rz q2
  · refine s g m _ h st H rp e0 en _ fun vs H1 ds m1 h1 p1 d1 => ?_
    exact ⟨ds, m1, P, fun _ _ _ => False, d1, p1.1, h1, fun v H' d m' hp po dv => q v H' d m' hp (p1.trans po) dv, fun cls d H' z => noW z⟩
/-! ### y = [e for ..], y no cell -/
theorem set_sound {te : TE} {i : Nat} (qe : ∀ g m P, fe g m P → WX X.K S0 te g m P) : ∀ E g m, aSet i fe E g m → WS X.K S0 (tAsg te (gName i)) E g m := fun E g m h st H S1 rp e0 e1 en D ok =>
  qe g m _ h st H rp (e0.trans e1) en _ fun v H1 d m1 h1 p1 d1 => ok.nx _ m1 _ H1 h1 p1.1 (e1.trans p1.2) ((en.mono p1.2).put d1)
theorem as_setLc (i : Nat) {y : Str} {py spos : Pos} (fro : Bool) {tg : Expr} {k : AbG} (hc : X.calm = true) (hN : X.N.Nodup) (ok : BlkOk X.N X.env.scope scope own) (ha : AE X S0 a fa) (hg : ACg X S0 scope (own.map (·.2)) tg k) (ht : ATs X S0 scope ifs ft) (he : AllB X scope fun Y => AE Y S0 elt fe)
    (hsw : swapsWith (.ListComp elt [⟨tg, a, ifs, 0⟩] scope pos) (some (.Name y py)) spos.line X.env = pure true) (hy : X.N[i]? = some y := by rfl) (hyl : X.env.scope.names.lookup y = some .local := by rfl)
    (hs : ∀ x, foldedSetIterable a X.env x = pure x := by intro _; rfl) : AS X S0 (.Assign [.Name y py] (.ListComp elt [⟨tg, a, ifs, 0⟩] scope pos) spos) (aSet i (aLc fro fa (own.map (·.2)) k ft fe)) := by
  obtain ⟨ta, pa, qa⟩ := ha.ex
  obtain ⟨tg', pg, qg⟩ := hg.ex
  obtain ⟨tt, pt, qt⟩ := ht.ex
  obtain ⟨te, pe, qe⟩ := all_ae he
  exact ⟨_, ps_setLc hc hN hy hyl hsw (pi_sq pa) ok pg pt pe hs, set_sound (lc_sound fro qa qg qt qe)⟩
theorem as_setLcR (i : Nat) {y : Str} {py spos : Pos} (fro : Bool) {tg : Expr} {k : AbG} {pr p2 : Pos} (hc : X.calm = true) (hN : X.N.Nodup) (ok : BlkOk X.N X.env.scope scope own) (hm : X.mg "range" = none) (ha : AA X S0 [a] fs) (hg : ACg X S0 scope (own.map (·.2)) tg k) (ht : ATs X S0 scope ifs ft) (he : AllB X scope fun Y => AE Y S0 elt fe)
    (hsw : swapsWith (.ListComp elt [⟨tg, .Call (.Name "range" pr) [a] [] p2, ifs, 0⟩] scope pos) (some (.Name y py)) spos.line X.env = pure true) (hy : X.N[i]? = some y := by rfl) (hyl : X.env.scope.names.lookup y = some .local := by rfl)
    (hgl : Gl X "range" := by rfl) (hs1 : starEach [a] X.env = [(false, eval a X.env)] := by rfl) (hs : ∀ x, foldedSetIterable (.Call (.Name "range" pr) [a] [] p2) X.env x = pure x := by intro _; rfl) :
    AS X S0 (.Assign [.Name y py] (.ListComp elt [⟨tg, .Call (.Name "range" pr) [a] [] p2, ifs, 0⟩] scope pos) spos) (aSet i (aLcR fro fs (own.map (·.2)) k ft fe)) := by
  obtain ⟨ta, pa, qa⟩ := ha.ex
  obtain ⟨tg', pg, qg⟩ := hg.ex
  obtain ⟨tt, pt, qt⟩ := ht.ex
  obtain ⟨te, pe, qe⟩ := all_ae he
  exact ⟨_, ps_setLc hc hN hy hyl hsw (pi_range1 hgl hm pa hs1) ok pg pt pe hs, set_sound (lcR_sound fro qa qg qt qe)⟩
end
end AL
set_option maxHeartbeats 2000000
namespace AL
open PySem L2 Evl
/-- a method that callers use -/
structure CalM (P : Program) (w : World) (K : PySem.W.Frag) (mg : Str → Option Value) (base : Heap) (k : Nat) (C : Addr) (m : Str) (ps : List Str) (sp : ASp) : Prop where
  ex : ∃ (f : Addr) (fd : FuncData), FnOk P w K mg base (L2.CX P w) k f fd ps (lift K sp) ∧ Meth K C m f ∧ Binds K fd ps []
/-- an own class that is made by its __init__ -/
structure CalI (P : Program) (w : World) (K : PySem.W.Frag) (mg : Str → Option Value) (base : Heap) (k : Nat) (x : Str) (C : Addr) (ps : List Str) (sp : ASp) : Prop where
  ex : ∃ (f : Addr) (fd : FuncData), FnOk P w K mg base (L2.CX P w) k f fd ps (lift K sp) ∧ Mk K C f ∧ mg x = some (.ref C) ∧ Binds K fd ps []
  non : ∀ ds m Q W, sp ds m Q W → sp ds m (fun d m' => d = .non ∧ Q d m') W
/-- an own class of errors with two fields -/
structure ErrC (P : Program) (w : World) (K : PySem.W.Frag) (mg : Str → Option Value) (base : Heap) (x : Str) (C : Addr) (n1 n2 : Str) : Prop where
  T : OexC K C
  g : mg x = some (.ref C)
  ex : ∃ (f : Addr) (fd : FuncData), PySem.W.findIn K (.ref C) "__init__" = some (some (.ref f)) ∧ PySem.W.typeIn K (.ref f) = some (.type "function") ∧ FnOk P w K mg base (L2.CX P w) 1 f fd ["self", n1, n2] (spI2 n1 n2 C) ∧ Binds K fd ["self", n1, n2] []
/-- a class of errors in a clause -/
structure HdC (K : PySem.W.Frag) (mg : Str → Option Value) (x : Str) (C : Addr) : Prop where
  mg : mg x = some (.ref C)
  me : PySem.W.exmOne K (.ref C) (.ref C) = some true
section
variable {X : Cx} {S0 : Hp} {a b c e o elt : Expr} {es ifs : List Expr} {fa fb fc fo fe fi : Ab} {ft fu : AbT} {fs fr : AbA} {pos apos p : Pos} {k : Nat} {sp : ASp} {x nm n1 n2 : Str} {K : PySem.W.Frag} {ps : List Str} {C : Addr}
def fIsN (neg : Bool) : D → D → Mu → PD → Prop := fun x y m P => match y with
  | .non => P (.bl (if neg then !(decide (isN x = some true)) else decide (isN x = some true))) m
  | _ => False
theorem at_isN (ha : AE X S0 a fa) (hb : AE X S0 b fb) (hm : behindInMarks .Is b = false := by exact nomark _) : AT X S0 (.Compare a [.Is] [b] p) (aTest (aOp (fIsN false) fa fb)) :=
  at_cmp op_isN (fun x y m P h v w H rp d1 d2 Q q => by
    cases y <;> first | exact (show False from h).elim | skip
    cases d2
    refine ⟨rfl, ?_⟩
    rw [isN_ok d1]
    exact q _ H _ m h (Po.refl rp) rfl) hm ha hb
theorem at_notN (ha : AE X S0 a fa) (hb : AE X S0 b fb) (hm : behindInMarks .IsNot b = false := by exact nomark _) : AT X S0 (.Compare a [.IsNot] [b] p) (aTest (aOp (fIsN true) fa fb)) :=
  at_cmp op_notN (fun x y m P h v w H rp d1 d2 Q q => by
    cases y <;> first | exact (show False from h).elim | skip
    cases d2
    refine ⟨rfl, ?_⟩
    rw [isN_ok d1]
    exact q _ H _ m h (Po.refl rp) rfl) hm ha hb
theorem ae_met0 {pl : Sem Bool} (c : Cls X.K C) (G : CalM X.prog X.w X.K X.mg X.base k C nm ps sp) (hr : Room k X.A) (ho : AE X S0 o fo)
    (ht : eval (.Call (.Attribute o nm apos) [] [] pos) X.env = (do
      let ov ← eval o X.env
      standAt apos.atName
      let (g1, first) ← holding [ov] (getMethod ov nm pl)
      callWith pos g1 first (backTo pos (starEach [] X.env)) (backToKw pos (keywordEach [] X.env))) := by rfl) : AE X S0 (.Call (.Attribute o nm apos) [] [] pos) (aMeth C nm (fun _ _ _ => False) sp fo aNil) := by
  obtain ⟨f, fd, F, hm, hb⟩ := G.ex
  exact ae_meth0 (E := E0) (fun _ _ _ _ _ z => (noW z).elim) passL c hm F hr hb ho ht
theorem ae_met0X {pl : Sem Bool} {W : PX} (tk : Takes X (fun cls d _ H' => XW X.K S0 W cls d H')) (c : Cls X.K C) (G : CalM X.prog X.w X.K X.mg X.base k C nm ps sp) (hr : Room k X.A) (ho : AE X S0 o fo)
    (ht : eval (.Call (.Attribute o nm apos) [] [] pos) X.env = (do
      let ov ← eval o X.env
      standAt apos.atName
      let (g1, first) ← holding [ov] (getMethod ov nm pl)
      callWith pos g1 first (backTo pos (starEach [] X.env)) (backToKw pos (keywordEach [] X.env))) := by rfl) : AE X S0 (.Call (.Attribute o nm apos) [] [] pos) (aMeth C nm W sp fo aNil) := by
  obtain ⟨f, fd, F, hm, hb⟩ := G.ex
  exact ae_meth0 (E := fun cls d H' => XW X.K S0 W cls d H') (fun _ _ _ _ e z => xw_mono e z) (passes_call tk fun _ _ _ _ z => z) c hm F hr hb ho ht
theorem ae_met {pl : Sem Bool} (c : Cls X.K C) (G : CalM X.prog X.w X.K X.mg X.base k C nm ps sp) (hr : Room k X.A) (ho : AE X S0 o fo) (ha : AA X S0 (e :: es) fs)
    (hst : starEach (e :: es) X.env = (false, eval e X.env) :: starEach es X.env := by rfl) (hpl : (backTo pos (starEach es X.env)).any (·.1) = false := by rfl)
    (ht : eval (.Call (.Attribute o nm apos) (e :: es) [] pos) X.env = (do
      let ov ← eval o X.env
      standAt apos.atName
      let (g1, first) ← holding [ov] (getMethod ov nm pl)
      callWith pos g1 first (backTo pos (starEach (e :: es) X.env)) (backToKw pos (keywordEach [] X.env))) := by rfl) : AE X S0 (.Call (.Attribute o nm apos) (e :: es) [] pos) (aMeth C nm (fun _ _ _ => False) sp fo fs) := by
  obtain ⟨f, fd, F, hm, hb⟩ := G.ex
  exact ae_meth (E := E0) (fun _ _ _ _ _ z => (noW z).elim) passL c hm F hr hb ho ha hst hpl ht
theorem ae_metX {pl : Sem Bool} {W : PX} (tk : Takes X (fun cls d _ H' => XW X.K S0 W cls d H')) (c : Cls X.K C) (G : CalM X.prog X.w X.K X.mg X.base k C nm ps sp) (hr : Room k X.A) (ho : AE X S0 o fo) (ha : AA X S0 (e :: es) fs)
    (hst : starEach (e :: es) X.env = (false, eval e X.env) :: starEach es X.env := by rfl) (hpl : (backTo pos (starEach es X.env)).any (·.1) = false := by rfl)
    (ht : eval (.Call (.Attribute o nm apos) (e :: es) [] pos) X.env = (do
      let ov ← eval o X.env
      standAt apos.atName
      let (g1, first) ← holding [ov] (getMethod ov nm pl)
      callWith pos g1 first (backTo pos (starEach (e :: es) X.env)) (backToKw pos (keywordEach [] X.env))) := by rfl) : AE X S0 (.Call (.Attribute o nm apos) (e :: es) [] pos) (aMeth C nm W sp fo fs) := by
  obtain ⟨f, fd, F, hm, hb⟩ := G.ex
  exact ae_meth (E := fun cls d H' => XW X.K S0 W cls d H') (fun _ _ _ _ e z => xw_mono e z) (passes_call tk fun _ _ _ _ z => z) c hm F hr hb ho ha hst hpl ht
theorem ae_new (G : CalI X.prog X.w X.K X.mg X.base k x C ps sp) (hr : Room (k + 1) X.A) (ha : AA X S0 (e :: es) fs) (hg : Gl X x := by rfl) (hdb : (x == ("__debug__" : Str)) = false := by decide)
    (he : starEach (e :: es) X.env = (false, eval e X.env) :: starEach es X.env := by rfl) (hpl : (backTo pos (starEach es X.env)).any (·.1) = false := by rfl) : AE X S0 (.Call (.Name x p) (e :: es) [] pos) (aMake C (fun _ _ _ => False) sp fs) := by
  obtain ⟨f, fd, F, M, hm, hb⟩ := G.ex
  exact ae_make (E := E0) (fun _ _ _ _ _ z => (noW z).elim) passL M F hr hm hb G.non ha hg hdb he hpl
theorem as_rais {W : PX} {p' : Pos} (hc : X.calm = true) (tk : Takes X (fun cls d _ H' => XW X.K S0 W cls d H')) (R : ErrC X.prog X.w X.K X.mg X.base x C n1 n2) (hr : Room 2 X.A) (ha : AA X S0 (e :: es) fs) (hg : Gl X x := by rfl)
    (hdb : (x == ("__debug__" : Str)) = false := by decide) (he : starEach (e :: es) X.env = (false, eval e X.env) :: starEach es X.env := by rfl) (hpl : (backTo pos (starEach es X.env)).any (·.1) = false := by rfl) :
    AS X S0 (.Raise (some (.Call (.Name x p) (e :: es) [] pos)) none p') (aRaise C n1 n2 W fs) := by
  obtain ⟨f, fd, iC, tI, F, hb⟩ := R.ex
  exact as_raise hc tk R.T iC tI F hr hb passL R.g ha hg hdb he hpl
end
end AL
set_option maxHeartbeats 2000000
/-! what the operations say of data whose kind is known: equations for simp -/
namespace AL
open PySem L2 Evl
section
variable {m : Mu} {P : PD} {Pb : Bool → Mu → Prop} {Q : Mu → Prop} {i j : Int} {s t : Str} {ds es : List D} {d e : D} {p q : Addr} {b c : Bool} {x y : D}
theorem asT_b : asT Pb (.bl b) m = Pb b m := rfl
theorem fAdd_i : fAdd (.int i) (.int j) m P = P (.int (i + j)) m := rfl
theorem fAdd_s : fAdd (.str s) (.str t) m P = (s.length + t.length ≤ 1000000 ∧ P (.str (s ++ t)) m) := rfl
theorem fAdd_t : fAdd (.tup ds) (.tup es) m P = (ds.length + es.length ≤ 100000 ∧ P (.tup (ds ++ es)) m) := rfl
theorem fAdd_l : fAdd (.lst ds) (.lst es) m P = (ds.length + es.length ≤ 100000 ∧ P (.lst (ds ++ es)) m) := rfl
theorem fAddB_bl (h : m p = some (.lst ds)) : fAddB (.box p) (.lst es) m P = (ds.length + es.length ≤ 100000 ∧ ∀ r, m r = none → P (.box r) (mset m r (.lst (ds ++ es)))) := by
  simp only [fAddB, lstOf, h]
theorem fSub_i : fSub (.int i) (.int j) m P = P (.int (i - j)) m := by
  show (True ∧ P (.int (i - j)) m) = P (.int (i - j)) m
  rw [true_and]
theorem fLt_i : fLt (.int i) (.int j) m P = P (.bl (decide (i < j))) m := by
  show (True ∧ P (.bl (decide (i < j))) m) = _
  rw [true_and]
theorem fLe_i : fLe (.int i) (.int j) m P = P (.bl (decide (i ≤ j))) m := by
  show (True ∧ P (.bl (decide (i ≤ j))) m) = _
  rw [true_and]
theorem fGt_i : fGt (.int i) (.int j) m P = P (.bl (decide (j < i))) m := by
  show (True ∧ P (.bl (decide (j < i))) m) = _
  rw [true_and]
theorem fGe_i : fGe (.int i) (.int j) m P = P (.bl (decide (j ≤ i))) m := by
  show (True ∧ P (.bl (decide (j ≤ i))) m) = _
  rw [true_and]
theorem fMul_i : fMul (.int i) (.int j) m P = (CMul i j ∧ P (.int (i * j)) m) := rfl
theorem fMod_i : fMod (.int i) (.int j) m P = (j ≠ 0 ∧ P (.int (i.fmod j)) m) := rfl
theorem fFdiv_i : fFdiv (.int i) (.int j) m P = (CDivN i j ∧ P (.int (i.fdiv j)) m) := rfl
theorem fPow_i : fPow (.int i) (.int j) m P = (CPow i j ∧ P (.int (i ^ j.toNat)) m) := rfl
theorem fNeg_i : fNeg (.int i) m P = P (.int (-i)) m := rfl
theorem fEq_i : fEq (.int i) (.int j) m P = P (.bl (decide (i = j))) m := rfl
theorem fEq_s : fEq (.str s) (.str t) m P = P (.bl (decide (s = t))) m := rfl
theorem fEq_b : fEq (.bl b) (.bl c) m P = P (.bl (decide (b = c))) m := rfl
theorem fNe_i : fNe (.int i) (.int j) m P = P (.bl (!decide (i = j))) m := rfl
theorem fNe_s : fNe (.str s) (.str t) m P = P (.bl (!decide (s = t))) m := rfl
theorem fNe_b : fNe (.bl b) (.bl c) m P = P (.bl (!decide (b = c))) m := rfl
theorem fIn_s {k : Nat} {z : Str} : fIn (.str ⟨#[k]⟩) (.str z) m P = P (.bl (decide (k ∈ z.cps.toList))) m := by
  show (∃ c, (⟨#[k]⟩ : Str) = ⟨#[c]⟩ ∧ P (.bl (decide (c ∈ z.cps.toList))) m) = _
  apply propext
  constructor
  · rintro ⟨c, h, g⟩
    cases h
    exact g
  · intro g
    exact ⟨k, rfl, g⟩
theorem fNi_s {k : Nat} {z : Str} : fNi (.str ⟨#[k]⟩) (.str z) m P = P (.bl (!decide (k ∈ z.cps.toList))) m := by
  show (∃ c, (⟨#[k]⟩ : Str) = ⟨#[c]⟩ ∧ P (.bl (!decide (c ∈ z.cps.toList))) m) = _
  apply propext
  constructor
  · rintro ⟨c, h, g⟩
    cases h
    exact g
  · intro g
    exact ⟨k, rfl, g⟩
theorem fIx_t (h : atI ds i = some d) : fIx (.tup ds) (.int i) m P = P d m := by
  unfold fIx seqOf
  simp only [h]
theorem fIx_l (h : atI ds i = some d) : fIx (.lst ds) (.int i) m P = P d m := by
  unfold fIx seqOf
  simp only [h]
theorem fIx_b (hm : m p = some (.lst ds)) (h : atI ds i = some d) : fIx (.box p) (.int i) m P = P d m := by
  unfold fIx seqOf
  simp only [hm, h]
theorem fIx_s {k : Nat} (hl : s.length ≤ 1000000) (h : atI s.cps.toList i = some k) : fIx (.str s) (.int i) m P = P (.str ⟨#[k]⟩) m := by
  unfold fIx
  simp only [hl, h, true_and]
theorem fIx_t0 : fIx (.tup (d :: ds)) (.int 0) m P = P d m := fIx_t (by simp [atI, ixN])
theorem fIx_t1 : fIx (.tup (e :: d :: ds)) (.int 1) m P = P d m := fIx_t (by
  have : (1 : Int) < (ds.length : Int) + 1 + 1 := by omega
  simp [atI, ixN, this])
theorem fIx_t2 {a1 a2 : D} : fIx (.tup (a1 :: a2 :: d :: ds)) (.int 2) m P = P d m := fIx_t (by
  have : (2 : Int) < (ds.length : Int) + 1 + 1 + 1 := by omega
  simp [atI, ixN, this])
theorem fIx_l0 : fIx (.lst (d :: ds)) (.int 0) m P = P d m := fIx_l (by simp [atI, ixN])
theorem fIx_l1 : fIx (.lst (e :: d :: ds)) (.int 1) m P = P d m := fIx_l (by
  have : (1 : Int) < (ds.length : Int) + 1 + 1 := by omega
  simp [atI, ixN, this])
theorem fSl_s {lo hi : Option Int} : fSl (.str s) lo hi m P = (s.length ≤ 1000000 ∧ P (.str (cutS s lo hi)) m) := rfl
theorem fSl_t {lo hi : Option Int} : fSl (.tup ds) lo hi m P = P (.tup (cutD ds lo hi)) m := rfl
theorem fSl_l {lo hi : Option Int} : fSl (.lst ds) lo hi m P = P (.lst (cutD ds lo hi)) m := rfl
theorem fLen_s (h : s.length ≤ 1000000) : fLen [.str s] m P = P (.int s.length) m := by
  unfold fLen lenD
  simp only [h, if_pos]
theorem fLen_t : fLen [.tup ds] m P = P (.int ds.length) m := rfl
theorem fLen_l : fLen [.lst ds] m P = P (.int ds.length) m := rfl
theorem fLen_b (h : m p = some (.lst ds)) : fLen [.box p] m P = P (.int ds.length) m := by
  simp only [fLen, lenD, seqOf, h, Option.map]
theorem fInt_i : fInt [.int i] m P = P (.int i) m := rfl
theorem fAbs_i : fAbs [.int i] m P = P (.int (if i < 0 then -i else i)) m := rfl
theorem fMax_i : fMax [.int i, .int j] m P = P (.int (if j > i then j else i)) m := rfl
theorem fMin_i : fMin [.int i, .int j] m P = P (.int (if j < i then j else i)) m := rfl
theorem fTuple_t : fTuple [.tup ds] m P = P (.tup ds) m := rfl
theorem fTuple_l : fTuple [.lst ds] m P = P (.tup ds) m := rfl
theorem fTuple_b (h : m p = some (.lst ds)) : fTuple [.box p] m P = P (.tup ds) m := by
  simp only [fTuple, seqOf, h]
theorem fList_t : fList [.tup ds] m P = P (.lst ds) m := rfl
theorem fList_l : fList [.lst ds] m P = P (.lst ds) m := rfl
theorem isL_b (h : m p = some (.lst ds)) : isL m (.box p) = True := by
  simp only [isL, h]
theorem fApp_b (h : m p = some (.lst ds)) : fApp (.box p) [d] m P = (ds.length < 100000 ∧ P .non (mset m p (.lst (ds ++ [d])))) := by
  simp only [fApp, h]
theorem fPop_b (h : m p = some (.lst ds)) (hl : ds = es ++ [d]) : fPop (.box p) [] m P = P d (mset m p (.lst es)) := by
  subst hl
  simp only [fPop, h, List.length_append, List.length_singleton, Nat.add_sub_cancel, List.getElem?_append_right (Nat.le_refl _), Nat.sub_self, List.getElem?_cons_zero, List.dropLast_concat]
theorem fRepS_s {n : Int} : fRepS (.str s) (.int n) m P = ((-1000 ≤ n ∧ n ≤ 1000 ∧ s.length ≤ 1000) ∧ P (.str (repS s n)) m) := rfl
theorem seqOf_t : seqOf m (.tup ds) = some ds := rfl
theorem seqOf_l : seqOf m (.lst ds) = some ds := rfl
theorem seqOf_b (h : m p = some (.lst ds)) : seqOf m (.box p) = some ds := by simp only [seqOf, h]
theorem lstOf_b (h : m p = some (.lst ds)) : lstOf m (.box p) = some ds := by simp only [lstOf, h]
theorem truD_b : truD m (.bl b) = some b := rfl
theorem truD_t : truD m (.tup ds) = some (!ds.isEmpty) := rfl
theorem truD_l : truD m (.lst ds) = some (!ds.isEmpty) := rfl
theorem truD_x (h : m p = some (.lst ds)) : truD m (.box p) = some (!ds.isEmpty) := by simp only [truD, seqOf, h, Option.map]
theorem kTup_t {n : Nat} {kr : List D → Sl → Mu → (Sl → Mu → Prop) → Prop} {g : Sl} {R : Sl → Mu → Prop} : kTup n kr (.tup ds) g m R = (ds.length = n ∧ kr ds g m R) := rfl
theorem kTup_b {n : Nat} {kr : List D → Sl → Mu → (Sl → Mu → Prop) → Prop} {g : Sl} {R : Sl → Mu → Prop} (h : m p = some (.lst ds)) : kTup n kr (.box p) g m R = (ds.length = n ∧ kr ds g m R) := by
  simp only [kTup, seqOf, h]
theorem fSetIx_b {k : Nat} (h : m p = some (.lst ds)) (hk : ixN ds.length i = some k) : fSetIx (.box p) (.int i) d m Q = Q (mset m p (.lst (ds.set k d))) := by
  simp only [fSetIx, h, hk]
theorem fldOf_b {C dx : Addr} {f : Str} {fs : List (Str × D)} (h : m p = some (.ins C dx fs)) : fldOf C m f (.box p) = fs.lookup f := by
  simp only [fldOf, h, if_pos]
theorem setFld_b {C dx : Addr} {f : Str} {fs : List (Str × D)} (h : m p = some (.ins C dx fs)) : setFld C f (.box p) d m Q = (fs.length < 1000 ∧ Q (mset m p (.ins C dx (putD f d fs)))) := by
  simp only [setFld, h, true_and]
theorem isI_b {C dx : Addr} {f : Str} {fs : List (Str × D)} (h : m p = some (.ins C dx fs)) (hl : fs.lookup f = none) : isI C f m (.box p) = True := by
  simp only [isI, h, hl, true_and]
theorem fIsi_non_int : fIsi [.non, .ty "int"] m P = P (.bl false) m := by simp [fIsi, tyOf, isiT]
theorem fIsi_non_bool : fIsi [.non, .ty "bool"] m P = P (.bl false) m := by simp [fIsi, tyOf, isiT]
theorem fIsi_non_str : fIsi [.non, .ty "str"] m P = P (.bl false) m := by simp [fIsi, tyOf, isiT]
theorem fIsi_non_tuple : fIsi [.non, .ty "tuple"] m P = P (.bl false) m := by simp [fIsi, tyOf, isiT]
theorem fIsi_non_list : fIsi [.non, .ty "list"] m P = P (.bl false) m := by simp [fIsi, tyOf, isiT]
theorem fIsi_bl_int : fIsi [(.bl b), .ty "int"] m P = P (.bl true) m := by simp [fIsi, tyOf, isiT]
theorem fIsi_bl_bool : fIsi [(.bl b), .ty "bool"] m P = P (.bl true) m := by simp [fIsi, tyOf, isiT]
theorem fIsi_bl_str : fIsi [(.bl b), .ty "str"] m P = P (.bl false) m := by simp [fIsi, tyOf, isiT]
theorem fIsi_bl_tuple : fIsi [(.bl b), .ty "tuple"] m P = P (.bl false) m := by simp [fIsi, tyOf, isiT]
theorem fIsi_bl_list : fIsi [(.bl b), .ty "list"] m P = P (.bl false) m := by simp [fIsi, tyOf, isiT]
theorem fIsi_int_int : fIsi [(.int i), .ty "int"] m P = P (.bl true) m := by simp [fIsi, tyOf, isiT]
theorem fIsi_int_bool : fIsi [(.int i), .ty "bool"] m P = P (.bl false) m := by simp [fIsi, tyOf, isiT]
theorem fIsi_int_str : fIsi [(.int i), .ty "str"] m P = P (.bl false) m := by simp [fIsi, tyOf, isiT]
theorem fIsi_int_tuple : fIsi [(.int i), .ty "tuple"] m P = P (.bl false) m := by simp [fIsi, tyOf, isiT]
theorem fIsi_int_list : fIsi [(.int i), .ty "list"] m P = P (.bl false) m := by simp [fIsi, tyOf, isiT]
theorem fIsi_str_int : fIsi [(.str s), .ty "int"] m P = P (.bl false) m := by simp [fIsi, tyOf, isiT]
theorem fIsi_str_bool : fIsi [(.str s), .ty "bool"] m P = P (.bl false) m := by simp [fIsi, tyOf, isiT]
theorem fIsi_str_str : fIsi [(.str s), .ty "str"] m P = P (.bl true) m := by simp [fIsi, tyOf, isiT]
theorem fIsi_str_tuple : fIsi [(.str s), .ty "tuple"] m P = P (.bl false) m := by simp [fIsi, tyOf, isiT]
theorem fIsi_str_list : fIsi [(.str s), .ty "list"] m P = P (.bl false) m := by simp [fIsi, tyOf, isiT]
theorem fIsi_tup_int : fIsi [(.tup ds), .ty "int"] m P = P (.bl false) m := by simp [fIsi, tyOf, isiT]
theorem fIsi_tup_bool : fIsi [(.tup ds), .ty "bool"] m P = P (.bl false) m := by simp [fIsi, tyOf, isiT]
theorem fIsi_tup_str : fIsi [(.tup ds), .ty "str"] m P = P (.bl false) m := by simp [fIsi, tyOf, isiT]
theorem fIsi_tup_tuple : fIsi [(.tup ds), .ty "tuple"] m P = P (.bl true) m := by simp [fIsi, tyOf, isiT]
theorem fIsi_tup_list : fIsi [(.tup ds), .ty "list"] m P = P (.bl false) m := by simp [fIsi, tyOf, isiT]
theorem fIsi_lst_int : fIsi [(.lst ds), .ty "int"] m P = P (.bl false) m := by simp [fIsi, tyOf, isiT]
theorem fIsi_lst_bool : fIsi [(.lst ds), .ty "bool"] m P = P (.bl false) m := by simp [fIsi, tyOf, isiT]
theorem fIsi_lst_str : fIsi [(.lst ds), .ty "str"] m P = P (.bl false) m := by simp [fIsi, tyOf, isiT]
theorem fIsi_lst_tuple : fIsi [(.lst ds), .ty "tuple"] m P = P (.bl false) m := by simp [fIsi, tyOf, isiT]
theorem fIsi_lst_list : fIsi [(.lst ds), .ty "list"] m P = P (.bl true) m := by simp [fIsi, tyOf, isiT]
theorem fIsi_box_int (h : m p = some (.lst ds)) : fIsi [.box p, .ty "int"] m P = P (.bl false) m := by simp [fIsi, tyOf, isiT, h]
theorem fIsi_box_bool (h : m p = some (.lst ds)) : fIsi [.box p, .ty "bool"] m P = P (.bl false) m := by simp [fIsi, tyOf, isiT, h]
theorem fIsi_box_str (h : m p = some (.lst ds)) : fIsi [.box p, .ty "str"] m P = P (.bl false) m := by simp [fIsi, tyOf, isiT, h]
theorem fIsi_box_tuple (h : m p = some (.lst ds)) : fIsi [.box p, .ty "tuple"] m P = P (.bl false) m := by simp [fIsi, tyOf, isiT, h]
theorem fIsi_box_list (h : m p = some (.lst ds)) : fIsi [.box p, .ty "list"] m P = P (.bl true) m := by simp [fIsi, tyOf, isiT, h]
theorem fIsN_n {n : Bool} : fIsN n x .non m P = P (.bl (if n then !(decide (isN x = some true)) else decide (isN x = some true))) m := rfl
theorem ite_tt {A B : Prop} : (if true = true then A else B) = A := if_pos rfl
theorem ite_ff {A B : Prop} : (if false = true then A else B) = B := if_neg (by decide)
/-- a statement, then the rest, what is between them said by M -/
def aCut (s u : AbS) : AbS := fun E g m => ∃ M : Sl → Mu → Prop, s { E with nx := M } g m ∧ ∀ g' m', M g' m' → u E g' m'
theorem ab_cut {X : Cx} {S0 : Hp} {st : Stmt} {rest : List Stmt} {s u : AbS} (h : AS X S0 st s) (r : AB X S0 rest u) : AB X S0 (st :: rest) (aCut s u) := by
  obtain ⟨t, p, q⟩ := h.ex
  obtain ⟨t2, p2, q2⟩ := r.ex
  refine ⟨_, pss_cons p p2, fun E g m ⟨M, hs, hu⟩ st H S1 rp e0 e1 en D ok => ?_⟩
  refine q _ g m hs st H S1 rp e0 e1 en _ ⟨fun g' m' st' H' hm rp' e1' en' => ?_, ok.rt, ok.bk, ok.ct⟩
  exact q2 E g' m' (hu g' m' hm) st' H' S1 rp' e0 e1' en' D ok
theorem cut_plain {s u : AbS} {E : AEn} {g : Sl} {m : Mu} (h : s { E with nx := fun g' m' => u E g' m' } g m) : aCut s u E g m := ⟨_, h, fun _ _ z => z⟩
end
end AL
set_option maxHeartbeats 2000000
namespace AL
open PySem L2 Evl
/-! ### what is left behind -/
def Sub (m m' : Mu) : Prop := ∀ a o, m a = some o → m' a = some o
section
variable {K : PySem.W.Frag} {m m' m2 : Mu} {p : Addr} {o : MO} {d : D}
theorem Sub.refl : Sub m m := fun _ _ h => h
theorem Sub.trans (a : Sub m m') (b : Sub m' m2) : Sub m m2 := fun x o h => b x o (a x o h)
theorem Sub.new (h : Sub m m') (hp : m p = none) : Sub m (mset m' p o) := fun x u hx => by
  have : x ≠ p := fun z => by
    rw [z, hp] at hx
    cases hx
  rw [mset_ne this]
  exact h x u hx
theorem Sub.del (h : Sub m m') (hp : m p = none) : Sub m (mdel m' p) := fun x u hx => by
  have : x ≠ p := fun z => by
    rw [z, hp] at hx
    cases hx
  rw [mdel_ne this]
  exact h x u hx
theorem Sub.non (h : Sub m m') (hp : m' p = none) : m p = none := by
  cases e : m p with
  | none => rfl
  | some o =>
    rw [h p o e] at hp
    cases hp
theorem Po.sub {H : Hp} (h : Sub m' m) (rp : Rep K H m) : Po K m H m' H := by
  have ex : Ex (R m H) (R m' H) := fun b u hb => by
    obtain ⟨h1, h2⟩ := R_of hb
    rw [R_none (h.non h1)]
    exact h2
  exact ⟨fun a o ha => MOk.mono ex rfl (rp a o (h a o ha)), ex⟩
theorem Fz.sub (h : Sub m' m) : Fz K d m d m' := fun H v rp dv => ⟨Po.sub h rp, Den.mono (Po.sub h rp).2 _ _ dv⟩
theorem fzE.sub {P : PD} (h : Sub m' m) (hp : P d m') : fzE K P d m := ⟨d, m', Fz.sub h, hp⟩
end
end AL
set_option maxHeartbeats 4000000
namespace AL
open PySem L2 Evl
def topS (i : Nat) : Stmt := PySem.Challenge.pw_stoodthere_k16_whole_texts_of_trees.main.body.getD i (.Pass ⟨0, 0, 0, 0⟩)
/-! need: level 3 raises -/
abbrev s_need : Stmt := topS 7
abbrev N_need : List Str := ["holds", "name"]
theorem sc_need : L2.FnScope N_need ["holds", "name"] (defScope s_need) := ⟨rfl, rfl, rfl, by decide +kernel, rfl, by decide +kernel, by decide +kernel⟩
def b_need (C_NotUsable : Addr) (W : PX) : AbS :=
  (aIf (aNot (aTru (aVar 0))) (aRaise C_NotUsable "word" "at" W (aCons (aVar 1) (aCons (aUn fNeg (aC (.int 1))) aNil))) aNext)
theorem ab_need {P : Program} {w : World} {K : PySem.W.Frag} {mg : Str → Option Value} {base : Heap} {C_NotUsable : Addr} (R_NotUsable : ErrC P w K mg base "NotUsable" C_NotUsable "word" "at")
  {f : Addr} (cdv : Value) (A : Around) (outer : List PySem.Env) (s : Shared) (H : Hp) (E : XK) (S0 : Hp) (W : PX) (hr : Room 2 (A.deeper (PyProof.Rows.envOfC "need" (defScope s_need) s.heap.objs.size f cdv)))
  (tk : Takes (cxA P w K mg base N_need "need" s_need f cdv A outer s H E) (fun cls d _ H' => XW K S0 W cls d H')) :
  AB (cxA P w K mg base N_need "need" s_need f cdv A outer s H E) S0 (defBody s_need) (b_need C_NotUsable W) :=
  (ab_one (as_if (at_not (at_tru (ae_var 0))) (ab_one (as_rais rfl tk R_NotUsable (hr.mono (by decide)) (aa_cons (ae_var 1) (aa_cons (ae_neg ae_i) aa_nil)))) ab_nil))
/-! read_tree: level 6 raises -/
abbrev s_read_tree : Stmt := topS 16
abbrev N_read_tree : List Str := ["text"]
theorem sc_read_tree : L2.FnScope N_read_tree ["text"] (defScope s_read_tree) := ⟨rfl, rfl, rfl, by decide +kernel, rfl, by decide +kernel, by decide +kernel⟩
def b_read_tree (C_TreeReader : Addr) (sp_TreeReader_init sp_TreeReader_read_all sp_need : ASp) (W : PX) : AbS :=
  (aSeq (aDo (aCallX W sp_need (aCons (aCa fIsi (aCons (aVar 0) (aCons (aC (.ty "str")) aNil))) (aCons (aC (.str "text")) aNil))))
  (aRet (aMeth C_TreeReader "read_all" W sp_TreeReader_read_all (aMake C_TreeReader (fun _ _ _ => False) sp_TreeReader_init (aCons (aVar 0) (aCons (aC (.bl false)) aNil))) aNil)))
theorem ab_read_tree {P : Program} {w : World} {K : PySem.W.Frag} {mg : Str → Option Value} {base : Heap} {C_TreeReader : Addr} {sp_TreeReader_init sp_TreeReader_read_all sp_need : ASp} (GTreeReader_init : CalI P w K mg base 1 "TreeReader" C_TreeReader ["self", "text", "may_have_holes"] sp_TreeReader_init) (GTreeReader_read_all : CalM P w K mg base 5 C_TreeReader "read_all" ["self"] sp_TreeReader_read_all) (Gneed : Cal P w K mg base 3 "need" ["holds", "name"] sp_need) (K_TreeReader : Cls K C_TreeReader) (T : Bl mg)
  {f : Addr} (cdv : Value) (A : Around) (outer : List PySem.Env) (s : Shared) (H : Hp) (E : XK) (S0 : Hp) (W : PX) (hr : Room 5 (A.deeper (PyProof.Rows.envOfC "read_tree" (defScope s_read_tree) s.heap.objs.size f cdv)))
  (tk : Takes (cxA P w K mg base N_read_tree "read_tree" s_read_tree f cdv A outer s H E) (fun cls d _ H' => XW K S0 W cls d H')) :
  AB (cxA P w K mg base N_read_tree "read_tree" s_read_tree f cdv A outer s H E) S0 (defBody s_read_tree) (b_read_tree C_TreeReader sp_TreeReader_init sp_TreeReader_read_all sp_need W) :=
  (ab_cons (as_expr (ae_calX tk Gneed (hr.mono (by decide)) (aa_cons (ae_isi T.isi (aa_cons (ae_var 0) (aa_cons (ae_ty "str" T.str (by decide +kernel)) aa_nil))) (aa_cons ae_s aa_nil))))
  (ab_one (as_ret (ae_met0X tk K_TreeReader GTreeReader_read_all (hr.mono (by decide)) (ae_new GTreeReader_init (hr.mono (by decide)) (aa_cons (ae_var 0) (aa_cons ae_b aa_nil)))))))
/-! read_pattern: level 6 raises -/
abbrev s_read_pattern : Stmt := topS 17
abbrev N_read_pattern : List Str := ["text"]
theorem sc_read_pattern : L2.FnScope N_read_pattern ["text"] (defScope s_read_pattern) := ⟨rfl, rfl, rfl, by decide +kernel, rfl, by decide +kernel, by decide +kernel⟩
def b_read_pattern (C_TreeReader : Addr) (sp_TreeReader_init sp_TreeReader_read_all sp_need : ASp) (W : PX) : AbS :=
  (aSeq (aDo (aCallX W sp_need (aCons (aCa fIsi (aCons (aVar 0) (aCons (aC (.ty "str")) aNil))) (aCons (aC (.str "text")) aNil))))
  (aRet (aMeth C_TreeReader "read_all" W sp_TreeReader_read_all (aMake C_TreeReader (fun _ _ _ => False) sp_TreeReader_init (aCons (aVar 0) (aCons (aC (.bl true)) aNil))) aNil)))
theorem ab_read_pattern {P : Program} {w : World} {K : PySem.W.Frag} {mg : Str → Option Value} {base : Heap} {C_TreeReader : Addr} {sp_TreeReader_init sp_TreeReader_read_all sp_need : ASp} (GTreeReader_init : CalI P w K mg base 1 "TreeReader" C_TreeReader ["self", "text", "may_have_holes"] sp_TreeReader_init) (GTreeReader_read_all : CalM P w K mg base 5 C_TreeReader "read_all" ["self"] sp_TreeReader_read_all) (Gneed : Cal P w K mg base 3 "need" ["holds", "name"] sp_need) (K_TreeReader : Cls K C_TreeReader) (T : Bl mg)
  {f : Addr} (cdv : Value) (A : Around) (outer : List PySem.Env) (s : Shared) (H : Hp) (E : XK) (S0 : Hp) (W : PX) (hr : Room 5 (A.deeper (PyProof.Rows.envOfC "read_pattern" (defScope s_read_pattern) s.heap.objs.size f cdv)))
  (tk : Takes (cxA P w K mg base N_read_pattern "read_pattern" s_read_pattern f cdv A outer s H E) (fun cls d _ H' => XW K S0 W cls d H')) :
  AB (cxA P w K mg base N_read_pattern "read_pattern" s_read_pattern f cdv A outer s H E) S0 (defBody s_read_pattern) (b_read_pattern C_TreeReader sp_TreeReader_init sp_TreeReader_read_all sp_need W) :=
  (ab_cons (as_expr (ae_calX tk Gneed (hr.mono (by decide)) (aa_cons (ae_isi T.isi (aa_cons (ae_var 0) (aa_cons (ae_ty "str" T.str (by decide +kernel)) aa_nil))) (aa_cons ae_s aa_nil))))
  (ab_one (as_ret (ae_met0X tk K_TreeReader GTreeReader_read_all (hr.mono (by decide)) (ae_new GTreeReader_init (hr.mono (by decide)) (aa_cons (ae_var 0) (aa_cons ae_b aa_nil)))))))
/-! shown: level 1 -/
abbrev s_shown : Stmt := topS 19
abbrev N_shown : List Str := ["tree", "text", "missing", "word", "many"]
theorem sc_shown : L2.FnScope N_shown ["tree"] (defScope s_shown) := ⟨rfl, rfl, rfl, by decide +kernel, rfl, by decide +kernel, by decide +kernel⟩
def b_shown  (W : PX) : AbS :=
  (aSeq (aSet 1 (aLstB aNil))
  (aSeq (aSet 2 (aLstB aNil))
  (aSeq (aFor (aVar 0) (kTup 2 (kCons (kName 3) (kCons (kName 4) kNil))) (aSeq (aDo (aML fApp (aVar 1) (aCons (aVar 3) aNil)))
  (aCut (aIf (aTest (aOp fGt (aVar 4) (aC (.int 0)))) (aSeq (aDo (aML fApp (aVar 1) (aCons (aC (.str "(")) aNil)))
  (aSeq (aDo (aML fApp (aVar 2) (aCons (aVar 4) aNil)))
  aCont)) aNext)
  (aSeq (aWhile (aAnd (aTru (aVar 2)) (aTest (aOp fEq (aOp fIx (aVar 2) (aUn fNeg (aC (.int 1)))) (aC (.int 1))))) (aSeq (aDo (aML fApp (aVar 1) (aCons (aC (.str ")")) aNil)))
  (aDo (aML fPop (aVar 2) aNil))))
  (aIf (aTru (aVar 2)) (aSeq (aDo (aML fApp (aVar 1) (aCons (aC (.str ",")) aNil)))
  (aAugIx (fun i j => i - j) (aVar 2) (aUn fNeg (aC (.int 1))) (aC (.int 1)))) aNext)))))
  (aRet (aJoin (aC (.str "")) (aVar 1))))))
theorem ab_shown {P : Program} {w : World} {K : PySem.W.Frag} {mg : Str → Option Value} {base : Heap} 
  {f : Addr} (cdv : Value) (A : Around) (outer : List PySem.Env) (s : Shared) (H : Hp) (E : XK) (S0 : Hp) (W : PX) (hr : Room 0 (A.deeper (PyProof.Rows.envOfC "shown" (defScope s_shown) s.heap.objs.size f cdv)))
  (tk : Takes (cxA P w K mg base N_shown "shown" s_shown f cdv A outer s H E) (fun cls d _ H' => XW K S0 W cls d H')) :
  AB (cxA P w K mg base N_shown "shown" s_shown f cdv A outer s H E) S0 (defBody s_shown) (b_shown  W) :=
  (ab_cons (as_set 1 (ae_lstB aa_nil) sc_shown.nd)
  (ab_cons (as_set 2 (ae_lstB aa_nil) sc_shown.nd)
  (ab_cons (as_for (passes_of rfl) rfl (ae_var 0) (ag_tup rfl (ags_cons (ag_name 3 sc_shown.nd) (ags_cons (ag_name 4 sc_shown.nd) ags_nil))) (ab_cons (as_expr (ae_app (ae_var 1) (aa_cons (ae_var 3) aa_nil)))
  (ab_cut (as_if (at_gt (ae_var 4) ae_i) (ab_cons (as_expr (ae_app (ae_var 1) (aa_cons ae_s aa_nil)))
  (ab_cons (as_expr (ae_app (ae_var 2) (aa_cons (ae_var 4) aa_nil)))
  (ab_one as_cont))) ab_nil)
  (ab_cons (as_while (passes_of rfl) (aw_at (aw_and (at_tru (ae_var 2)) (at_and1 (at_eq (ae_ix (ae_var 2) (ae_neg ae_i)) ae_i)))) (ab_cons (as_expr (ae_app (ae_var 1) (aa_cons ae_s aa_nil)))
  (ab_one (as_expr (ae_pop (ae_var 2))))))
  (ab_one (as_if (at_tru (ae_var 2)) (ab_cons (as_expr (ae_app (ae_var 1) (aa_cons ae_s aa_nil)))
  (ab_one (as_augIx ip_sub (ae_var 2) (ae_neg ae_i) ae_i))) ab_nil))))))
  (ab_one (as_ret (ae_join ae_s (ae_var 1)))))))
/-! law_tape: level 1 -/
abbrev s_law_tape : Stmt := topS 21
abbrev N_law_tape : List Str := ["script", "state", "cell", "cells"]
theorem sc_law_tape : L2.FnScope N_law_tape ["script"] (defScope s_law_tape) := ⟨rfl, rfl, rfl, by decide +kernel, rfl, by decide +kernel, by decide +kernel⟩
def b_law_tape  (W : PX) : AbS :=
  (aSeq (aSet 1 (aC (.int 33757)))
  (aSeq (aFor (aVar 0) (kName 2) (aSet 1 (aOp fMod (aOp fAdd (aOp fAdd (aOp fMul (aVar 1) (aC (.int 61871))) (aVar 2)) (aC (.int 37))) (aC (.int 2147483647)))))
  (aSeq (aSet 3 (aLc true (aVar 0) [2] (kName 2) aYes (aCa fAbs (aCons (aVar 2) aNil))))
  (aRet (aLst (aCons (aRevB (aVar 3)) (aCons (aLstB (aCons (aVar 1) aNil)) aNil)))))))
theorem ab_law_tape {P : Program} {w : World} {K : PySem.W.Frag} {mg : Str → Option Value} {base : Heap} (T : Bl mg)
  {f : Addr} (cdv : Value) (A : Around) (outer : List PySem.Env) (s : Shared) (H : Hp) (E : XK) (S0 : Hp) (W : PX) (hr : Room 0 (A.deeper (PyProof.Rows.envOfC "_law_tape" (defScope s_law_tape) s.heap.objs.size f cdv)))
  (tk : Takes (cxA P w K mg base N_law_tape "_law_tape" s_law_tape f cdv A outer s H E) (fun cls d _ H' => XW K S0 W cls d H')) :
  AB (cxA P w K mg base N_law_tape "_law_tape" s_law_tape f cdv A outer s H E) S0 (defBody s_law_tape) (b_law_tape  W) :=
  (ab_cons (as_set 1 ae_i sc_law_tape.nd)
  (ab_cons (as_for (passes_of rfl) rfl (ae_var 0) (ag_name 2 sc_law_tape.nd) (ab_one (as_set 1 (ae_mod (ae_add (ae_add (ae_mul (ae_var 1) ae_i) (ae_var 2)) ae_i) ae_i) sc_law_tape.nd)))
  (ab_cons (as_setLc (own := [("cell", 2)]) 3 true rfl sc_law_tape.nd (blkOk_by (own := [("cell", 2)]) (N := N_law_tape) (sc := defScope s_law_tape) (by decide +kernel)) (ae_var 0) (acg_name 2 (by decide) (fun _ _ _ _ _ => pg_name (i := 2) sc_law_tape.nd rfl (by first | exact Or.inl rfl | exact Or.inr rfl))) ats_nil (fun _ _ _ _ _ => (ae_abs T.abs (aa_cons (ae_var 2) aa_nil))) (sw_true rfl rfl rfl (by decide +kernel)))
  (ab_one (as_ret (ae_lst (aa_cons (ae_revB (ae_var 3)) (aa_cons (ae_lstB (aa_cons (ae_var 1) aa_nil)) aa_nil))))))))
/-! law_pick: level 1 -/
abbrev s_law_pick : Stmt := topS 22
abbrev N_law_pick : List Str := ["tape", "many", "cells", "found"]
theorem sc_law_pick : L2.FnScope N_law_pick ["tape", "many"] (defScope s_law_pick) := ⟨rfl, rfl, rfl, by decide +kernel, rfl, by decide +kernel, by decide +kernel⟩
def b_law_pick  (W : PX) : AbS :=
  (aSeq (aSet 2 (aOp fIx (aVar 0) (aC (.int 0))))
  (aSeq (aWhile (aAnd (aTest (aOp fGt (aCa fLen (aCons (aVar 2) aNil)) (aC (.int 0)))) (aTest (aOp fEq (aOp fIx (aVar 2) (aUn fNeg (aC (.int 1)))) (aC (.int 0))))) (aDo (aML fPop (aVar 2) aNil)))
  (aCut (aIf (aTest (aOp fGt (aCa fLen (aCons (aVar 2) aNil)) (aC (.int 0)))) (aSeq (aSet 3 (aOp fMod (aCa fInt (aCons (aOp fIx (aVar 2) (aUn fNeg (aC (.int 1)))) aNil)) (aVar 1)))
  (aSeq (aAsg (aOp fFdiv (aCa fInt (aCons (aOp fIx (aVar 2) (aUn fNeg (aC (.int 1)))) aNil)) (aVar 1)) (kSub (aVar 2) (aUn fNeg (aC (.int 1)))))
  (aRet (aVar 3)))) aNext)
  (aSeq (aAsg (aOp fMod (aOp fAdd (aOp fMul (aOp fIx (aOp fIx (aVar 0) (aC (.int 1))) (aC (.int 0))) (aC (.int 48271))) (aC (.int 13))) (aC (.int 2147483647))) (kSub (aOp fIx (aVar 0) (aC (.int 1))) (aC (.int 0))))
  (aRet (aOp fMod (aOp fFdiv (aOp fIx (aOp fIx (aVar 0) (aC (.int 1))) (aC (.int 0))) (aC (.int 32))) (aVar 1)))))))
theorem ab_law_pick {P : Program} {w : World} {K : PySem.W.Frag} {mg : Str → Option Value} {base : Heap} (T : Bl mg)
  {f : Addr} (cdv : Value) (A : Around) (outer : List PySem.Env) (s : Shared) (H : Hp) (E : XK) (S0 : Hp) (W : PX) (hr : Room 0 (A.deeper (PyProof.Rows.envOfC "_law_pick" (defScope s_law_pick) s.heap.objs.size f cdv)))
  (tk : Takes (cxA P w K mg base N_law_pick "_law_pick" s_law_pick f cdv A outer s H E) (fun cls d _ H' => XW K S0 W cls d H')) :
  AB (cxA P w K mg base N_law_pick "_law_pick" s_law_pick f cdv A outer s H E) S0 (defBody s_law_pick) (b_law_pick  W) :=
  (ab_cons (as_set 2 (ae_ix (ae_var 0) ae_i) sc_law_pick.nd)
  (ab_cons (as_while (passes_of rfl) (aw_at (aw_and (at_gt (ae_len T.len (aa_cons (ae_var 2) aa_nil)) ae_i) (at_and1 (at_eq (ae_ix (ae_var 2) (ae_neg ae_i)) ae_i)))) (ab_one (as_expr (ae_pop (ae_var 2)))))
  (ab_cut (as_if (at_gt (ae_len T.len (aa_cons (ae_var 2) aa_nil)) ae_i) (ab_cons (as_set 3 (ae_mod (ae_int T.int (aa_cons (ae_ix (ae_var 2) (ae_neg ae_i)) aa_nil)) (ae_var 1)) sc_law_pick.nd)
  (ab_cons (as_asg (ae_fdiv (ae_int T.int (aa_cons (ae_ix (ae_var 2) (ae_neg ae_i)) aa_nil)) (ae_var 1)) (ag_sub (ae_var 2) (ae_neg ae_i)))
  (ab_one (as_ret (ae_var 3))))) ab_nil)
  (ab_cons (as_asg (ae_mod (ae_add (ae_mul (ae_ix (ae_ix (ae_var 0) ae_i) ae_i) ae_i) ae_i) ae_i) (ag_sub (ae_ix (ae_var 0) ae_i) ae_i))
  (ab_one (as_ret (ae_mod (ae_fdiv (ae_ix (ae_ix (ae_var 0) ae_i) ae_i) ae_i) (ae_var 1))))))))
/-! law_same: level 1 -/
abbrev s_law_same : Stmt := topS 23
abbrev N_law_same : List Str := ["told", "due", "rows", "pair", "one", "two", "k"]
theorem sc_law_same : L2.FnScope N_law_same ["told", "due"] (defScope s_law_same) := ⟨rfl, rfl, rfl, by decide +kernel, rfl, by decide +kernel, by decide +kernel⟩
def b_law_same  (W : PX) : AbS :=
  (aSeq (aSet 2 (aLstB (aCons (aTup (aCons (aVar 0) (aCons (aVar 1) aNil))) aNil)))
  (aSeq (aWhile (aTest (aOp fGt (aCa fLen (aCons (aVar 2) aNil)) (aC (.int 0)))) (aSeq (aSet 3 (aML fPop (aVar 2) aNil))
  (aSeq (aSet 4 (aOp fIx (aVar 3) (aC (.int 0))))
  (aSeq (aSet 5 (aOp fIx (aVar 3) (aC (.int 1))))
  (aIf (aTru (aCa fIsi (aCons (aVar 5) (aCons (aC (.ty "tuple")) aNil)))) (aCut (aIf (aOr (aNot (aTru (aCa fIsi (aCons (aVar 4) (aCons (aC (.ty "tuple")) aNil))))) (aTest (aOp fNe (aCa fLen (aCons (aVar 4) aNil)) (aCa fLen (aCons (aVar 5) aNil))))) (aRet (aC (.bl false))) aNext)
  (aForR false (aCons (aCa fLen (aCons (aVar 5) aNil)) aNil) 6 (aDo (aML fApp (aVar 2) (aCons (aTup (aCons (aOp fIx (aVar 4) (aVar 6)) (aCons (aOp fIx (aVar 5) (aVar 6)) aNil))) aNil))))) (aIf (aTest (aOp (fIsN false) (aVar 5) (aC .non))) (aIf (aTest (aOp (fIsN true) (aVar 4) (aC .non))) (aRet (aC (.bl false))) aNext) (aIf (aTru (aCa fIsi (aCons (aVar 5) (aCons (aC (.ty "bool")) aNil)))) (aIf (aOr (aNot (aTru (aCa fIsi (aCons (aVar 4) (aCons (aC (.ty "bool")) aNil))))) (aTest (aOp fNe (aVar 4) (aVar 5)))) (aRet (aC (.bl false))) aNext) (aIf (aTru (aCa fIsi (aCons (aVar 5) (aCons (aC (.ty "int")) aNil)))) (aIf (aOr (aTru (aCa fIsi (aCons (aVar 4) (aCons (aC (.ty "bool")) aNil)))) (aOr (aNot (aTru (aCa fIsi (aCons (aVar 4) (aCons (aC (.ty "int")) aNil))))) (aTest (aOp fNe (aVar 4) (aVar 5))))) (aRet (aC (.bl false))) aNext) (aIf (aTru (aCa fIsi (aCons (aVar 5) (aCons (aC (.ty "str")) aNil)))) (aIf (aOr (aNot (aTru (aCa fIsi (aCons (aVar 4) (aCons (aC (.ty "str")) aNil))))) (aTest (aOp fNe (aVar 4) (aVar 5)))) (aRet (aC (.bl false))) aNext) (aRet (aC (.bl false))))))))))))
  (aRet (aC (.bl true)))))
theorem ab_law_same {P : Program} {w : World} {K : PySem.W.Frag} {mg : Str → Option Value} {base : Heap} (T : Bl mg)
  {f : Addr} (cdv : Value) (A : Around) (outer : List PySem.Env) (s : Shared) (H : Hp) (E : XK) (S0 : Hp) (W : PX) (hr : Room 0 (A.deeper (PyProof.Rows.envOfC "_law_same" (defScope s_law_same) s.heap.objs.size f cdv)))
  (tk : Takes (cxA P w K mg base N_law_same "_law_same" s_law_same f cdv A outer s H E) (fun cls d _ H' => XW K S0 W cls d H')) :
  AB (cxA P w K mg base N_law_same "_law_same" s_law_same f cdv A outer s H E) S0 (defBody s_law_same) (b_law_same  W) :=
  (ab_cons (as_set 2 (ae_lstB (aa_cons (ae_tup (aa_cons (ae_var 0) (aa_cons (ae_var 1) aa_nil))) aa_nil)) sc_law_same.nd)
  (ab_cons (as_while (passes_of rfl) (at_gt (ae_len T.len (aa_cons (ae_var 2) aa_nil)) ae_i) (ab_cons (as_set 3 (ae_pop (ae_var 2)) sc_law_same.nd)
  (ab_cons (as_set 4 (ae_ix (ae_var 3) ae_i) sc_law_same.nd)
  (ab_cons (as_set 5 (ae_ix (ae_var 3) ae_i) sc_law_same.nd)
  (ab_one (as_if (at_tru (ae_isi T.isi (aa_cons (ae_var 5) (aa_cons (ae_ty "tuple" T.tuple (by decide +kernel)) aa_nil)))) (ab_cut (as_if (aw_at (aw_or (at_not (at_tru (ae_isi T.isi (aa_cons (ae_var 4) (aa_cons (ae_ty "tuple" T.tuple (by decide +kernel)) aa_nil))))) (at_or1 (at_ne (ae_len T.len (aa_cons (ae_var 4) aa_nil)) (ae_len T.len (aa_cons (ae_var 5) aa_nil)))))) (ab_one (as_ret ae_b)) ab_nil)
  (ab_one (as_forR1 6 (passes_of rfl) rfl T.range (aa_cons (ae_len T.len (aa_cons (ae_var 5) aa_nil)) aa_nil) sc_law_same.nd (ab_one (as_expr (ae_app (ae_var 2) (aa_cons (ae_tup (aa_cons (ae_ix (ae_var 4) (ae_var 6)) (aa_cons (ae_ix (ae_var 5) (ae_var 6)) aa_nil))) aa_nil))))))) (ab_one (as_if (at_isN (ae_var 5) ae_n) (ab_one (as_if (at_notN (ae_var 4) ae_n) (ab_one (as_ret ae_b)) ab_nil)) (ab_one (as_if (at_tru (ae_isi T.isi (aa_cons (ae_var 5) (aa_cons (ae_ty "bool" T.bool (by decide +kernel)) aa_nil)))) (ab_one (as_if (aw_at (aw_or (at_not (at_tru (ae_isi T.isi (aa_cons (ae_var 4) (aa_cons (ae_ty "bool" T.bool (by decide +kernel)) aa_nil))))) (at_or1 (at_ne (ae_var 4) (ae_var 5))))) (ab_one (as_ret ae_b)) ab_nil)) (ab_one (as_if (at_tru (ae_isi T.isi (aa_cons (ae_var 5) (aa_cons (ae_ty "int" T.int (by decide +kernel)) aa_nil)))) (ab_one (as_if (aw_at (aw_or (at_tru (ae_isi T.isi (aa_cons (ae_var 4) (aa_cons (ae_ty "bool" T.bool (by decide +kernel)) aa_nil)))) (aw_or (at_not (at_tru (ae_isi T.isi (aa_cons (ae_var 4) (aa_cons (ae_ty "int" T.int (by decide +kernel)) aa_nil))))) (at_or1 (at_ne (ae_var 4) (ae_var 5)))))) (ab_one (as_ret ae_b)) ab_nil)) (ab_one (as_if (at_tru (ae_isi T.isi (aa_cons (ae_var 5) (aa_cons (ae_ty "str" T.str (by decide +kernel)) aa_nil)))) (ab_one (as_if (aw_at (aw_or (at_not (at_tru (ae_isi T.isi (aa_cons (ae_var 4) (aa_cons (ae_ty "str" T.str (by decide +kernel)) aa_nil))))) (at_or1 (at_ne (ae_var 4) (ae_var 5))))) (ab_one (as_ret ae_b)) ab_nil)) (ab_one (as_ret ae_b))))))))))))))))
  (ab_one (as_ret ae_b))))
/-! law_marks: level 2 -/
abbrev s_law_marks : Stmt := topS 24
abbrev N_law_marks : List Str := ["tape", "names", "at", "marks", "k"]
theorem sc_law_marks : L2.FnScope N_law_marks ["tape"] (defScope s_law_marks) := ⟨rfl, rfl, rfl, by decide +kernel, rfl, by decide +kernel, by decide +kernel⟩
def b_law_marks (sp_law_pick : ASp) (W : PX) : AbS :=
  (aSeq (aSet 1 (aLst (aCons (aC (.str "b")) (aCons (aC (.str "ab")) (aCons (aC (.str "a-9")) (aCons (aC (.str "zz0")) (aCons (aC (.str "q")) (aCons (aC (.str "abcdefghijklmnop")) (aCons (aC (.str "c")) (aCons (aC (.str "b-")) aNil))))))))))
  (aSeq (aSet 2 (aCall sp_law_pick (aCons (aVar 0) (aCons (aC (.int 8)) aNil))))
  (aSeq (aSet 3 (aLstB (aCons (aTup (aCons (aOp fIx (aVar 1) (aVar 2)) (aCons (aC (.int 0)) aNil))) (aCons (aTup (aCons (aOp fIx (aVar 1) (aOp fMod (aOp fAdd (aVar 2) (aC (.int 1))) (aC (.int 8)))) (aCons (aC (.int 0)) aNil))) aNil))))
  (aCut (aIf (aTest (aOp fEq (aCall sp_law_pick (aCons (aVar 0) (aCons (aC (.int 4)) aNil))) (aC (.int 1)))) (aAsg (aTup (aCons (aC (.str ".")) (aCons (aC (.int 0)) aNil))) (kSub (aVar 3) (aC (.int 1)))) aNext)
  (aSeq (aForR false (aCons (aOp fAdd (aC (.int 1)) (aCall sp_law_pick (aCons (aVar 0) (aCons (aC (.int 5)) aNil)))) aNil) 4 (aDo (aML fApp (aVar 3) (aCons (aTup (aCons (aOp fIx (aVar 1) (aOp fMod (aOp fAdd (aVar 2) (aCall sp_law_pick (aCons (aVar 0) (aCons (aC (.int 8)) aNil)))) (aC (.int 8)))) (aCons (aOp fIx (aLst (aCons (aC (.int 1)) (aCons (aC (.int 2)) (aCons (aC (.int 1)) (aCons (aC (.int 2)) (aCons (aC (.int 3)) (aCons (aC (.int 4)) (aCons (aC (.int 0)) aNil)))))))) (aCall sp_law_pick (aCons (aVar 0) (aCons (aC (.int 7)) aNil)))) aNil))) aNil))))
  (aRet (aVar 3)))))))
theorem ab_law_marks {P : Program} {w : World} {K : PySem.W.Frag} {mg : Str → Option Value} {base : Heap} {sp_law_pick : ASp} (Glaw_pick : Cal P w K mg base 1 "_law_pick" ["tape", "many"] sp_law_pick) (T : Bl mg)
  {f : Addr} (cdv : Value) (A : Around) (outer : List PySem.Env) (s : Shared) (H : Hp) (E : XK) (S0 : Hp) (W : PX) (hr : Room 1 (A.deeper (PyProof.Rows.envOfC "_law_marks" (defScope s_law_marks) s.heap.objs.size f cdv)))
  (tk : Takes (cxA P w K mg base N_law_marks "_law_marks" s_law_marks f cdv A outer s H E) (fun cls d _ H' => XW K S0 W cls d H')) :
  AB (cxA P w K mg base N_law_marks "_law_marks" s_law_marks f cdv A outer s H E) S0 (defBody s_law_marks) (b_law_marks sp_law_pick W) :=
  (ab_cons (as_set 1 (ae_lst (aa_cons ae_s (aa_cons ae_s (aa_cons ae_s (aa_cons ae_s (aa_cons ae_s (aa_cons ae_s (aa_cons ae_s (aa_cons ae_s aa_nil))))))))) sc_law_marks.nd)
  (ab_cons (as_set 2 (ae_cal Glaw_pick (hr.mono (by decide)) (aa_cons (ae_var 0) (aa_cons ae_i aa_nil))) sc_law_marks.nd)
  (ab_cons (as_set 3 (ae_lstB (aa_cons (ae_tup (aa_cons (ae_ix (ae_var 1) (ae_var 2)) (aa_cons ae_i aa_nil))) (aa_cons (ae_tup (aa_cons (ae_ix (ae_var 1) (ae_mod (ae_add (ae_var 2) ae_i) ae_i)) (aa_cons ae_i aa_nil))) aa_nil))) sc_law_marks.nd)
  (ab_cut (as_if (at_eq (ae_cal Glaw_pick (hr.mono (by decide)) (aa_cons (ae_var 0) (aa_cons ae_i aa_nil))) ae_i) (ab_one (as_asg (ae_tup (aa_cons ae_s (aa_cons ae_i aa_nil))) (ag_sub (ae_var 3) ae_i))) ab_nil)
  (ab_cons (as_forR1 4 (passes_of rfl) rfl T.range (aa_cons (ae_add ae_i (ae_cal Glaw_pick (hr.mono (by decide)) (aa_cons (ae_var 0) (aa_cons ae_i aa_nil)))) aa_nil) sc_law_marks.nd (ab_one (as_expr (ae_app (ae_var 3) (aa_cons (ae_tup (aa_cons (ae_ix (ae_var 1) (ae_mod (ae_add (ae_var 2) (ae_cal Glaw_pick (hr.mono (by decide)) (aa_cons (ae_var 0) (aa_cons ae_i aa_nil)))) ae_i)) (aa_cons (ae_ix (ae_lst (aa_cons ae_i (aa_cons ae_i (aa_cons ae_i (aa_cons ae_i (aa_cons ae_i (aa_cons ae_i (aa_cons ae_i aa_nil)))))))) (ae_cal Glaw_pick (hr.mono (by decide)) (aa_cons (ae_var 0) (aa_cons ae_i aa_nil)))) aa_nil))) aa_nil)))))
  (ab_one (as_ret (ae_var 3))))))))
/-! law_tree: level 2 -/
abbrev s_law_tree : Stmt := topS 25
abbrev N_law_tree : List Str := ["tape", "marks", "most", "row", "need_v", "mark"]
theorem sc_law_tree : L2.FnScope N_law_tree ["tape", "marks", "most"] (defScope s_law_tree) := ⟨rfl, rfl, rfl, by decide +kernel, rfl, by decide +kernel, by decide +kernel⟩
def b_law_tree (sp_law_pick : ASp) (W : PX) : AbS :=
  (aSeq (aSet 3 (aLstB aNil))
  (aSeq (aSet 4 (aC (.int 1)))
  (aSeq (aWhile (aTest (aOp fGt (aVar 4) (aC (.int 0)))) (aSeq (aSet 5 (aOp fIx (aVar 1) (aCall sp_law_pick (aCons (aVar 0) (aCons (aCa fLen (aCons (aVar 1) aNil)) aNil)))))
  (aCut (aIf (aTest (aOp fGt (aOp fIx (aVar 5) (aC (.int 1))) (aOp fSub (aOp fSub (aVar 2) (aCa fLen (aCons (aVar 3) aNil))) (aVar 4)))) (aSet 5 (aOp fIx (aVar 1) (aCall sp_law_pick (aCons (aVar 0) (aCons (aC (.int 2)) aNil))))) aNext)
  (aSeq (aDo (aML fApp (aVar 3) (aCons (aVar 5) aNil)))
  (aSet 4 (aOp fAdd (aOp fSub (aVar 4) (aC (.int 1))) (aOp fIx (aVar 5) (aC (.int 1)))))))))
  (aRet (aCa fTuple (aCons (aVar 3) aNil))))))
theorem ab_law_tree {P : Program} {w : World} {K : PySem.W.Frag} {mg : Str → Option Value} {base : Heap} {sp_law_pick : ASp} (Glaw_pick : Cal P w K mg base 1 "_law_pick" ["tape", "many"] sp_law_pick) (T : Bl mg)
  {f : Addr} (cdv : Value) (A : Around) (outer : List PySem.Env) (s : Shared) (H : Hp) (E : XK) (S0 : Hp) (W : PX) (hr : Room 1 (A.deeper (PyProof.Rows.envOfC "_law_tree" (defScope s_law_tree) s.heap.objs.size f cdv)))
  (tk : Takes (cxA P w K mg base N_law_tree "_law_tree" s_law_tree f cdv A outer s H E) (fun cls d _ H' => XW K S0 W cls d H')) :
  AB (cxA P w K mg base N_law_tree "_law_tree" s_law_tree f cdv A outer s H E) S0 (defBody s_law_tree) (b_law_tree sp_law_pick W) :=
  (ab_cons (as_set 3 (ae_lstB aa_nil) sc_law_tree.nd)
  (ab_cons (as_set 4 ae_i sc_law_tree.nd)
  (ab_cons (as_while (passes_of rfl) (at_gt (ae_var 4) ae_i) (ab_cons (as_set 5 (ae_ix (ae_var 1) (ae_cal Glaw_pick (hr.mono (by decide)) (aa_cons (ae_var 0) (aa_cons (ae_len T.len (aa_cons (ae_var 1) aa_nil)) aa_nil)))) sc_law_tree.nd)
  (ab_cut (as_if (at_gt (ae_ix (ae_var 5) ae_i) (ae_sub (ae_sub (ae_var 2) (ae_len T.len (aa_cons (ae_var 3) aa_nil))) (ae_var 4))) (ab_one (as_set 5 (ae_ix (ae_var 1) (ae_cal Glaw_pick (hr.mono (by decide)) (aa_cons (ae_var 0) (aa_cons ae_i aa_nil)))) sc_law_tree.nd)) ab_nil)
  (ab_cons (as_expr (ae_app (ae_var 3) (aa_cons (ae_var 5) aa_nil)))
  (ab_one (as_set 4 (ae_add (ae_sub (ae_var 4) ae_i) (ae_ix (ae_var 5) ae_i)) sc_law_tree.nd))))))
  (ab_one (as_ret (ae_tuple T.tuple (aa_cons (ae_var 3) aa_nil)))))))
/-! law_far: level 1 -/
abbrev s_law_far : Stmt := topS 26
abbrev N_law_far : List Str := ["row", "at", "need_v"]
theorem sc_law_far : L2.FnScope N_law_far ["row", "at"] (defScope s_law_far) := ⟨rfl, rfl, rfl, by decide +kernel, rfl, by decide +kernel, by decide +kernel⟩
def b_law_far  (W : PX) : AbS :=
  (aSeq (aSet 2 (aC (.int 1)))
  (aSeq (aWhile (aTest (aOp fGt (aVar 2) (aC (.int 0)))) (aSeq (aSet 2 (aOp fSub (aOp fAdd (aVar 2) (aOp fIx (aOp fIx (aVar 0) (aVar 1)) (aC (.int 1)))) (aC (.int 1))))
  (aSet 1 (aOp fAdd (aVar 1) (aC (.int 1))))))
  (aRet (aVar 1))))
theorem ab_law_far {P : Program} {w : World} {K : PySem.W.Frag} {mg : Str → Option Value} {base : Heap} 
  {f : Addr} (cdv : Value) (A : Around) (outer : List PySem.Env) (s : Shared) (H : Hp) (E : XK) (S0 : Hp) (W : PX) (hr : Room 0 (A.deeper (PyProof.Rows.envOfC "_law_far" (defScope s_law_far) s.heap.objs.size f cdv)))
  (tk : Takes (cxA P w K mg base N_law_far "_law_far" s_law_far f cdv A outer s H E) (fun cls d _ H' => XW K S0 W cls d H')) :
  AB (cxA P w K mg base N_law_far "_law_far" s_law_far f cdv A outer s H E) S0 (defBody s_law_far) (b_law_far  W) :=
  (ab_cons (as_set 2 ae_i sc_law_far.nd)
  (ab_cons (as_while (passes_of rfl) (at_gt (ae_var 2) ae_i) (ab_cons (as_set 2 (ae_sub (ae_add (ae_var 2) (ae_ix (ae_ix (ae_var 0) (ae_var 1)) ae_i)) ae_i) sc_law_far.nd)
  (ab_one (as_set 1 (ae_add (ae_var 1) ae_i) sc_law_far.nd))))
  (ab_one (as_ret (ae_var 1)))))
/-! law_shown: level 2 -/
abbrev s_law_shown : Stmt := topS 27
abbrev N_law_shown : List Str := ["row", "ends", "line", "k", "j"]
theorem sc_law_shown : L2.FnScope N_law_shown ["row"] (defScope s_law_shown) := ⟨rfl, rfl, rfl, by decide +kernel, rfl, by decide +kernel, by decide +kernel⟩
def b_law_shown (sp_law_far : ASp) (W : PX) : AbS :=
  (aSeq (aSet 1 (aLcR true (aCons (aCa fLen (aCons (aVar 0) aNil)) aNil) [3] (kName 3) aYes (aCall sp_law_far (aCons (aVar 0) (aCons (aVar 3) aNil)))))
  (aSeq (aSet 2 (aC (.str "")))
  (aSeq (aForR false (aCons (aCa fLen (aCons (aVar 0) aNil)) aNil) 3 (aSeq (aSet 2 (aOp fAdd (aVar 2) (aOp fIx (aOp fIx (aVar 0) (aVar 3)) (aC (.int 0)))))
  (aIf (aTest (aOp fGt (aOp fIx (aOp fIx (aVar 0) (aVar 3)) (aC (.int 1))) (aC (.int 0)))) (aSet 2 (aOp fAdd (aVar 2) (aC (.str "(")))) (aSeq (aSet 2 (aOp fAdd (aVar 2) (aOp fRepS (aC (.str ")")) (aCa fLen (aCons (aLcR true (aCons (aVar 3) aNil) [4] (kName 4) (aAnd (aTest (aOp fGt (aOp fIx (aOp fIx (aVar 0) (aVar 4)) (aC (.int 1))) (aC (.int 0)))) (aTest (aOp fEq (aOp fIx (aVar 1) (aVar 4)) (aOp fAdd (aVar 3) (aC (.int 1)))))) (aVar 4)) aNil)))))
  (aIf (aTest (aOp fLt (aOp fAdd (aVar 3) (aC (.int 1))) (aCa fLen (aCons (aVar 0) aNil)))) (aSet 2 (aOp fAdd (aVar 2) (aC (.str ",")))) aNext)))))
  (aRet (aVar 2)))))
theorem ab_law_shown {P : Program} {w : World} {K : PySem.W.Frag} {mg : Str → Option Value} {base : Heap} {sp_law_far : ASp} (Glaw_far : Cal P w K mg base 1 "_law_far" ["row", "at"] sp_law_far) (T : Bl mg)
  {f : Addr} (cdv : Value) (A : Around) (outer : List PySem.Env) (s : Shared) (H : Hp) (E : XK) (S0 : Hp) (W : PX) (hr : Room 1 (A.deeper (PyProof.Rows.envOfC "_law_shown" (defScope s_law_shown) s.heap.objs.size f cdv)))
  (tk : Takes (cxA P w K mg base N_law_shown "_law_shown" s_law_shown f cdv A outer s H E) (fun cls d _ H' => XW K S0 W cls d H')) :
  AB (cxA P w K mg base N_law_shown "_law_shown" s_law_shown f cdv A outer s H E) S0 (defBody s_law_shown) (b_law_shown sp_law_far W) :=
  (ab_cons (as_set 1 (ae_lcR (own := [("k", 3)]) true rfl sc_law_shown.nd (blkOk_by (own := [("k", 3)]) (N := N_law_shown) (sc := defScope s_law_shown) (by decide +kernel)) T.range (aa_cons (ae_len T.len (aa_cons (ae_var 0) aa_nil)) aa_nil) (acg_name 3 (by decide) (fun _ _ _ _ _ => pg_name (i := 3) sc_law_shown.nd rfl (by first | exact Or.inl rfl | exact Or.inr rfl))) ats_nil (fun _ _ _ _ _ => (ae_cal Glaw_far (hr.mono (by decide)) (aa_cons (ae_var 0) (aa_cons (ae_var 3) aa_nil))))) sc_law_shown.nd)
  (ab_cons (as_set 2 ae_s sc_law_shown.nd)
  (ab_cons (as_forR1 3 (passes_of rfl) rfl T.range (aa_cons (ae_len T.len (aa_cons (ae_var 0) aa_nil)) aa_nil) sc_law_shown.nd (ab_cons (as_set 2 (ae_add (ae_var 2) (ae_ix (ae_ix (ae_var 0) (ae_var 3)) ae_i)) sc_law_shown.nd)
  (ab_one (as_if (at_gt (ae_ix (ae_ix (ae_var 0) (ae_var 3)) ae_i) ae_i) (ab_one (as_set 2 (ae_add (ae_var 2) ae_s) sc_law_shown.nd)) (ab_cons (as_set 2 (ae_add (ae_var 2) (ae_repS ae_s (ae_len T.len (aa_cons (ae_lcR (own := [("j", 4)]) true rfl sc_law_shown.nd (blkOk_by (own := [("j", 4)]) (N := N_law_shown) (sc := defScope s_law_shown) (by decide +kernel)) T.range (aa_cons (ae_var 3) aa_nil) (acg_name 4 (by decide) (fun _ _ _ _ _ => pg_name (i := 4) sc_law_shown.nd rfl (by first | exact Or.inl rfl | exact Or.inr rfl))) (ats_one fun _ _ _ _ _ => (aw_at (aw_and (at_gt (ae_ix (ae_ix (ae_var 0) (ae_var 4)) ae_i) ae_i) (at_and1 (at_eq (ae_ix (ae_var 1) (ae_var 4)) (ae_add (ae_var 3) ae_i)))))) (fun _ _ _ _ _ => (ae_var 4))) aa_nil)))) sc_law_shown.nd)
  (ab_one (as_if (at_lt (ae_add (ae_var 3) ae_i) (ae_len T.len (aa_cons (ae_var 0) aa_nil))) (ab_one (as_set 2 (ae_add (ae_var 2) ae_s) sc_law_shown.nd)) ab_nil)))))))
  (ab_one (as_ret (ae_var 2))))))
/-! law_read: level 1 -/
abbrev s_law_read : Stmt := topS 28
abbrev N_law_read : List Str := ["line", "holes", "low", "row", "around", "state", "k", "sign", "pair"]
theorem sc_law_read : L2.FnScope N_law_read ["line", "holes"] (defScope s_law_read) := ⟨rfl, rfl, rfl, by decide +kernel, rfl, by decide +kernel, by decide +kernel⟩
def b_law_read  (W : PX) : AbS :=
  (aSeq (aSet 2 (aC (.str "abcdefghijklmnopqrstuvwxyz")))
  (aSeq (aSet 3 (aLstB aNil))
  (aSeq (aSet 4 (aLstB aNil))
  (aSeq (aSet 5 (aC (.int 0)))
  (aSeq (aForR false (aCons (aCa fLen (aCons (aVar 0) aNil)) aNil) 6 (aSeq (aSet 7 (aOp fIx (aVar 0) (aVar 6)))
  (aIf (aAnd (aTest (aOp fEq (aVar 5) (aC (.int 0)))) (aTest (aOp fIn (aVar 7) (aVar 2)))) (aSeq (aDo (aML fApp (aVar 3) (aCons (aLstB (aCons (aVar 7) (aCons (aC (.int 0)) aNil))) aNil)))
  (aSet 5 (aC (.int 1)))) (aIf (aAnd (aTest (aOp fEq (aVar 5) (aC (.int 0)))) (aOr (aTest (aOp fEq (aVar 7) (aC (.str ".")))) (aAnd (aTru (aVar 1)) (aTest (aOp fEq (aVar 7) (aC (.str "?"))))))) (aSeq (aDo (aML fApp (aVar 3) (aCons (aLstB (aCons (aVar 7) (aCons (aC (.int 0)) aNil))) aNil)))
  (aSet 5 (aC (.int 2)))) (aIf (aAnd (aTest (aOp fEq (aVar 5) (aC (.int 1)))) (aAnd (aTest (aOp fIn (aVar 7) (aOp fAdd (aVar 2) (aC (.str "0123456789-"))))) (aTest (aOp fLt (aCa fLen (aCons (aOp fIx (aOp fIx (aVar 3) (aUn fNeg (aC (.int 1)))) (aC (.int 0))) aNil)) (aC (.int 16)))))) (aAsg (aOp fAdd (aOp fIx (aOp fIx (aVar 3) (aUn fNeg (aC (.int 1)))) (aC (.int 0))) (aVar 7)) (kSub (aOp fIx (aVar 3) (aUn fNeg (aC (.int 1)))) (aC (.int 0)))) (aIf (aAnd (aTest (aOp fEq (aVar 5) (aC (.int 1)))) (aTest (aOp fEq (aVar 7) (aC (.str "("))))) (aSeq (aDo (aML fApp (aVar 4) (aCons (aOp fSub (aCa fLen (aCons (aVar 3) aNil)) (aC (.int 1))) aNil)))
  (aSeq (aAsg (aC (.int 1)) (kSub (aOp fIx (aVar 3) (aUn fNeg (aC (.int 1)))) (aC (.int 1))))
  (aSet 5 (aC (.int 0))))) (aIf (aAnd (aTest (aOp fGt (aVar 5) (aC (.int 0)))) (aAnd (aTest (aOp fEq (aVar 7) (aC (.str ",")))) (aAnd (aTest (aOp fGt (aCa fLen (aCons (aVar 4) aNil)) (aC (.int 0)))) (aTest (aOp fLt (aOp fIx (aOp fIx (aVar 3) (aOp fIx (aVar 4) (aUn fNeg (aC (.int 1))))) (aC (.int 1))) (aC (.int 4))))))) (aSeq (aAsg (aOp fAdd (aOp fIx (aOp fIx (aVar 3) (aOp fIx (aVar 4) (aUn fNeg (aC (.int 1))))) (aC (.int 1))) (aC (.int 1))) (kSub (aOp fIx (aVar 3) (aOp fIx (aVar 4) (aUn fNeg (aC (.int 1))))) (aC (.int 1))))
  (aSet 5 (aC (.int 0)))) (aIf (aAnd (aTest (aOp fGt (aVar 5) (aC (.int 0)))) (aAnd (aTest (aOp fEq (aVar 7) (aC (.str ")")))) (aTest (aOp fGt (aCa fLen (aCons (aVar 4) aNil)) (aC (.int 0)))))) (aSeq (aDo (aML fPop (aVar 4) aNil))
  (aSet 5 (aC (.int 2)))) (aRet (aTup (aCons (aC (.str "raised")) (aCons (aC (.bl true)) (aCons (aC (.int 0)) (aCons (aVar 6) aNil))))))))))))))
  (aCut (aIf (aOr (aTest (aOp fEq (aVar 5) (aC (.int 0)))) (aTest (aOp fGt (aCa fLen (aCons (aVar 4) aNil)) (aC (.int 0))))) (aRet (aTup (aCons (aC (.str "raised")) (aCons (aC (.bl true)) (aCons (aC (.int 0)) (aCons (aCa fLen (aCons (aVar 0) aNil)) aNil)))))) aNext)
  (aRet (aTup (aCons (aC (.str "told")) (aCons (aCa fTuple (aCons (aLc true (aVar 3) [8] (kName 8) aYes (aTup (aCons (aOp fIx (aVar 8) (aC (.int 0))) (aCons (aOp fIx (aVar 8) (aC (.int 1))) aNil)))) aNil)) aNil))))))))))
theorem ab_law_read {P : Program} {w : World} {K : PySem.W.Frag} {mg : Str → Option Value} {base : Heap} (T : Bl mg)
  {f : Addr} (cdv : Value) (A : Around) (outer : List PySem.Env) (s : Shared) (H : Hp) (E : XK) (S0 : Hp) (W : PX) (hr : Room 0 (A.deeper (PyProof.Rows.envOfC "_law_read" (defScope s_law_read) s.heap.objs.size f cdv)))
  (tk : Takes (cxA P w K mg base N_law_read "_law_read" s_law_read f cdv A outer s H E) (fun cls d _ H' => XW K S0 W cls d H')) :
  AB (cxA P w K mg base N_law_read "_law_read" s_law_read f cdv A outer s H E) S0 (defBody s_law_read) (b_law_read  W) :=
  (ab_cons (as_set 2 ae_s sc_law_read.nd)
  (ab_cons (as_set 3 (ae_lstB aa_nil) sc_law_read.nd)
  (ab_cons (as_set 4 (ae_lstB aa_nil) sc_law_read.nd)
  (ab_cons (as_set 5 ae_i sc_law_read.nd)
  (ab_cons (as_forR1 6 (passes_of rfl) rfl T.range (aa_cons (ae_len T.len (aa_cons (ae_var 0) aa_nil)) aa_nil) sc_law_read.nd (ab_cons (as_set 7 (ae_ix (ae_var 0) (ae_var 6)) sc_law_read.nd)
  (ab_one (as_if (aw_at (aw_and (at_eq (ae_var 5) ae_i) (at_and1 (at_in (ae_var 7) (ae_var 2))))) (ab_cons (as_expr (ae_app (ae_var 3) (aa_cons (ae_lstB (aa_cons (ae_var 7) (aa_cons ae_i aa_nil))) aa_nil)))
  (ab_one (as_set 5 ae_i sc_law_read.nd))) (ab_one (as_if (aw_at (aw_and (at_eq (ae_var 5) ae_i) (at_and1 (aw_at (aw_or (at_eq (ae_var 7) ae_s) (at_or1 (aw_at (aw_and (at_tru (ae_var 1)) (at_and1 (at_eq (ae_var 7) ae_s)))))))))) (ab_cons (as_expr (ae_app (ae_var 3) (aa_cons (ae_lstB (aa_cons (ae_var 7) (aa_cons ae_i aa_nil))) aa_nil)))
  (ab_one (as_set 5 ae_i sc_law_read.nd))) (ab_one (as_if (aw_at (aw_and (at_eq (ae_var 5) ae_i) (aw_and (at_in (ae_var 7) (ae_add (ae_var 2) ae_s)) (at_and1 (at_lt (ae_len T.len (aa_cons (ae_ix (ae_ix (ae_var 3) (ae_neg ae_i)) ae_i) aa_nil)) ae_i))))) (ab_one (as_asg (ae_add (ae_ix (ae_ix (ae_var 3) (ae_neg ae_i)) ae_i) (ae_var 7)) (ag_sub (ae_ix (ae_var 3) (ae_neg ae_i)) ae_i))) (ab_one (as_if (aw_at (aw_and (at_eq (ae_var 5) ae_i) (at_and1 (at_eq (ae_var 7) ae_s)))) (ab_cons (as_expr (ae_app (ae_var 4) (aa_cons (ae_sub (ae_len T.len (aa_cons (ae_var 3) aa_nil)) ae_i) aa_nil)))
  (ab_cons (as_asg ae_i (ag_sub (ae_ix (ae_var 3) (ae_neg ae_i)) ae_i))
  (ab_one (as_set 5 ae_i sc_law_read.nd)))) (ab_one (as_if (aw_at (aw_and (at_gt (ae_var 5) ae_i) (aw_and (at_eq (ae_var 7) ae_s) (aw_and (at_gt (ae_len T.len (aa_cons (ae_var 4) aa_nil)) ae_i) (at_and1 (at_lt (ae_ix (ae_ix (ae_var 3) (ae_ix (ae_var 4) (ae_neg ae_i))) ae_i) ae_i)))))) (ab_cons (as_asg (ae_add (ae_ix (ae_ix (ae_var 3) (ae_ix (ae_var 4) (ae_neg ae_i))) ae_i) ae_i) (ag_sub (ae_ix (ae_var 3) (ae_ix (ae_var 4) (ae_neg ae_i))) ae_i))
  (ab_one (as_set 5 ae_i sc_law_read.nd))) (ab_one (as_if (aw_at (aw_and (at_gt (ae_var 5) ae_i) (aw_and (at_eq (ae_var 7) ae_s) (at_and1 (at_gt (ae_len T.len (aa_cons (ae_var 4) aa_nil)) ae_i))))) (ab_cons (as_expr (ae_pop (ae_var 4)))
  (ab_one (as_set 5 ae_i sc_law_read.nd))) (ab_one (as_ret (ae_tup (aa_cons ae_s (aa_cons ae_b (aa_cons ae_i (aa_cons (ae_var 6) aa_nil)))))))))))))))))))))
  (ab_cut (as_if (aw_at (aw_or (at_eq (ae_var 5) ae_i) (at_or1 (at_gt (ae_len T.len (aa_cons (ae_var 4) aa_nil)) ae_i)))) (ab_one (as_ret (ae_tup (aa_cons ae_s (aa_cons ae_b (aa_cons ae_i (aa_cons (ae_len T.len (aa_cons (ae_var 0) aa_nil)) aa_nil))))))) ab_nil)
  (ab_one (as_ret (ae_tup (aa_cons ae_s (aa_cons (ae_tuple T.tuple (aa_cons (ae_lc (own := [("pair", 8)]) true rfl sc_law_read.nd (blkOk_by (own := [("pair", 8)]) (N := N_law_read) (sc := defScope s_law_read) (by decide +kernel)) (ae_var 3) (acg_name 8 (by decide) (fun _ _ _ _ _ => pg_name (i := 8) sc_law_read.nd rfl (by first | exact Or.inl rfl | exact Or.inr rfl))) ats_nil (fun _ _ _ _ _ => (ae_tup (aa_cons (ae_ix (ae_var 8) ae_i) (aa_cons (ae_ix (ae_var 8) ae_i) aa_nil))))) aa_nil)) aa_nil)))))))))))
/-! law_asks: level 7 -/
abbrev s_law_asks : Stmt := topS 29
abbrev N_law_asks : List Str := ["line", "holes", "e"]
theorem sc_law_asks : L2.FnScope N_law_asks ["line", "holes"] (defScope s_law_asks) := ⟨rfl, rfl, rfl, by decide +kernel, rfl, by decide +kernel, by decide +kernel⟩
def b_law_asks (K : PySem.W.Frag) (C_InvalidText C_NotUsable C_TextError C_UseError : Addr) (sp_read_pattern sp_read_tree : ASp) (W : PX) : AbS :=
  (aTry K N_law_asks.length W [⟨C_InvalidText, 2, fun p fs => (aRet (aTup (aCons (aC (.str "raised")) (aCons (aCa (fIsX p C_TextError true) (aCons (aVar 2) (aCons (aC (.box C_TextError)) aNil))) (aCons (aXf p fs "line" (aVar 2)) (aCons (aXf p fs "at" (aVar 2)) aNil))))))⟩, ⟨C_NotUsable, 2, fun p fs => (aRet (aTup (aCons (aC (.str "refused")) (aCons (aCa (fIsX p C_UseError true) (aCons (aVar 2) (aCons (aC (.box C_UseError)) aNil))) (aCons (aXf p fs "word" (aVar 2)) (aCons (aXf p fs "at" (aVar 2)) aNil))))))⟩] (fun W => (aCut (aIf (aTru (aVar 1)) (aRet (aTup (aCons (aC (.str "told")) (aCons (aCallX W sp_read_pattern (aCons (aVar 0) aNil)) aNil)))) aNext)
  (aRet (aTup (aCons (aC (.str "told")) (aCons (aCallX W sp_read_tree (aCons (aVar 0) aNil)) aNil)))))))
theorem ab_law_asks {P : Program} {w : World} {K : PySem.W.Frag} {mg : Str → Option Value} {base : Heap} {C_InvalidText C_NotUsable C_TextError C_UseError : Addr} {sp_read_pattern sp_read_tree : ASp} (E_InvalidText : PySem.W.ErC K C_InvalidText) (E_NotUsable : PySem.W.ErC K C_NotUsable) (G_TextError : Glo K mg "TextError" (.box C_TextError)) (G_UseError : Glo K mg "UseError" (.box C_UseError)) (Gread_pattern : Cal P w K mg base 6 "read_pattern" ["text"] sp_read_pattern) (Gread_tree : Cal P w K mg base 6 "read_tree" ["text"] sp_read_tree) (H_InvalidText : HdC K mg "InvalidText" C_InvalidText) (H_NotUsable : HdC K mg "NotUsable" C_NotUsable) (N_InvalidText_at : PySem.W.findIn K (.ref C_InvalidText) "at" = some none) (N_InvalidText_line : PySem.W.findIn K (.ref C_InvalidText) "line" = some none) (N_NotUsable_at : PySem.W.findIn K (.ref C_NotUsable) "at" = some none) (N_NotUsable_word : PySem.W.findIn K (.ref C_NotUsable) "word" = some none) (S_InvalidText_TextError : PySem.W.kitOne K (.ref C_InvalidText) (.ref C_TextError) = some true) (S_NotUsable_UseError : PySem.W.kitOne K (.ref C_NotUsable) (.ref C_UseError) = some true) (T : Bl mg) (X_InvalidText : XfC K C_InvalidText) (X_NotUsable : XfC K C_NotUsable)
  {f : Addr} (cdv : Value) (A : Around) (outer : List PySem.Env) (s : Shared) (H : Hp) (E : XK) (S0 : Hp) (W : PX) (hr : Room 6 (A.deeper (PyProof.Rows.envOfC "_law_asks" (defScope s_law_asks) s.heap.objs.size f cdv)))
  (tk : Takes (cxA P w K mg base N_law_asks "_law_asks" s_law_asks f cdv A outer s H E) (fun cls d _ H' => XW K S0 W cls d H')) :
  AB (cxA P w K mg base N_law_asks "_law_asks" s_law_asks f cdv A outer s H E) S0 (defBody s_law_asks) (b_law_asks K C_InvalidText C_NotUsable C_TextError C_UseError sp_read_pattern sp_read_tree W) :=
  (ab_one (as_try rfl rfl sc_law_asks.nd tk (ClOk.cons ⟨rfl, by decide, .inl H_InvalidText.mg⟩ rfl rfl H_InvalidText.me (fun p dd ob l S0 fs I => (ab_one (as_ret (ae_tup (aa_cons ae_s (aa_cons (ae_isX I E_InvalidText S_InvalidText_TextError T.isi (aa_cons (ae_var 2) (aa_cons (ae_glo G_TextError) aa_nil))) (aa_cons (ae_xf I X_InvalidText N_InvalidText_line (ae_var 2)) (aa_cons (ae_xf I X_InvalidText N_InvalidText_at (ae_var 2)) aa_nil)))))))) (ClOk.cons ⟨rfl, by decide, .inl H_NotUsable.mg⟩ rfl rfl H_NotUsable.me (fun p dd ob l S0 fs I => (ab_one (as_ret (ae_tup (aa_cons ae_s (aa_cons (ae_isX I E_NotUsable S_NotUsable_UseError T.isi (aa_cons (ae_var 2) (aa_cons (ae_glo G_UseError) aa_nil))) (aa_cons (ae_xf I X_NotUsable N_NotUsable_word (ae_var 2)) (aa_cons (ae_xf I X_NotUsable N_NotUsable_at (ae_var 2)) aa_nil)))))))) ClOk.nil)) (fun l xe S W tk po => (ab_cut (as_if (at_tru (ae_var 1)) (ab_one (as_ret (ae_tup (aa_cons ae_s (aa_cons (ae_calX tk Gread_pattern (hr.mono (by decide)) (aa_cons (ae_var 0) aa_nil)) aa_nil))))) ab_nil)
  (ab_one (as_ret (ae_tup (aa_cons ae_s (aa_cons (ae_calX tk Gread_tree (hr.mono (by decide)) (aa_cons (ae_var 0) aa_nil)) aa_nil)))))))))
/-! law_right: level 8 -/
abbrev s_law_right : Stmt := topS 30
abbrev N_law_right : List Str := ["line", "holes", "due", "told"]
theorem sc_law_right : L2.FnScope N_law_right ["line"] (defScope s_law_right) := ⟨rfl, rfl, rfl, by decide +kernel, rfl, by decide +kernel, by decide +kernel⟩
def b_law_right (sp_law_asks sp_law_read sp_law_same sp_shown : ASp) (W : PX) : AbS :=
  (aSeq (aFor (aLst (aCons (aC (.bl false)) (aCons (aC (.bl true)) aNil))) (kName 1) (aSeq (aSet 2 (aCall sp_law_read (aCons (aVar 0) (aCons (aVar 1) aNil))))
  (aSeq (aSet 3 (aCall sp_law_asks (aCons (aVar 0) (aCons (aVar 1) aNil))))
  (aCut (aIf (aNot (aTru (aCall sp_law_same (aCons (aVar 3) (aCons (aVar 2) aNil))))) (aRet (aC (.bl false))) aNext)
  (aIf (aAnd (aTest (aOp fEq (aOp fIx (aVar 3) (aC (.int 0))) (aC (.str "told")))) (aNot (aTru (aCall sp_law_same (aCons (aCall sp_shown (aCons (aOp fIx (aVar 3) (aC (.int 1))) aNil)) (aCons (aVar 0) aNil)))))) (aRet (aC (.bl false))) aNext)))))
  (aRet (aC (.bl true))))
theorem ab_law_right {P : Program} {w : World} {K : PySem.W.Frag} {mg : Str → Option Value} {base : Heap} {sp_law_asks sp_law_read sp_law_same sp_shown : ASp} (Glaw_asks : Cal P w K mg base 7 "_law_asks" ["line", "holes"] sp_law_asks) (Glaw_read : Cal P w K mg base 1 "_law_read" ["line", "holes"] sp_law_read) (Glaw_same : Cal P w K mg base 1 "_law_same" ["told", "due"] sp_law_same) (Gshown : Cal P w K mg base 1 "shown" ["tree"] sp_shown)
  {f : Addr} (cdv : Value) (A : Around) (outer : List PySem.Env) (s : Shared) (H : Hp) (E : XK) (S0 : Hp) (W : PX) (hr : Room 7 (A.deeper (PyProof.Rows.envOfC "_law_right" (defScope s_law_right) s.heap.objs.size f cdv)))
  (tk : Takes (cxA P w K mg base N_law_right "_law_right" s_law_right f cdv A outer s H E) (fun cls d _ H' => XW K S0 W cls d H')) :
  AB (cxA P w K mg base N_law_right "_law_right" s_law_right f cdv A outer s H E) S0 (defBody s_law_right) (b_law_right sp_law_asks sp_law_read sp_law_same sp_shown W) :=
  (ab_cons (as_for (passes_of rfl) rfl (ae_lst (aa_cons ae_b (aa_cons ae_b aa_nil))) (ag_name 1 sc_law_right.nd) (ab_cons (as_set 2 (ae_cal Glaw_read (hr.mono (by decide)) (aa_cons (ae_var 0) (aa_cons (ae_var 1) aa_nil))) sc_law_right.nd)
  (ab_cons (as_set 3 (ae_cal Glaw_asks (hr.mono (by decide)) (aa_cons (ae_var 0) (aa_cons (ae_var 1) aa_nil))) sc_law_right.nd)
  (ab_cut (as_if (at_not (at_tru (ae_cal Glaw_same (hr.mono (by decide)) (aa_cons (ae_var 3) (aa_cons (ae_var 2) aa_nil))))) (ab_one (as_ret ae_b)) ab_nil)
  (ab_one (as_if (aw_at (aw_and (at_eq (ae_ix (ae_var 3) ae_i) ae_s) (at_and1 (at_not (at_tru (ae_cal Glaw_same (hr.mono (by decide)) (aa_cons (ae_cal Gshown (hr.mono (by decide)) (aa_cons (ae_ix (ae_var 3) ae_i) aa_nil)) (aa_cons (ae_var 0) aa_nil)))))))) (ab_one (as_ret ae_b)) ab_nil))))))
  (ab_one (as_ret ae_b)))
/-! law_masked: level 2 -/
abbrev s_law_masked : Stmt := topS 31
abbrev N_law_masked : List Str := ["tape", "row", "at"]
theorem sc_law_masked : L2.FnScope N_law_masked ["tape", "row"] (defScope s_law_masked) := ⟨rfl, rfl, rfl, by decide +kernel, rfl, by decide +kernel, by decide +kernel⟩
def b_law_masked (sp_law_far sp_law_pick : ASp) (W : PX) : AbS :=
  (aSeq (aSet 2 (aCall sp_law_pick (aCons (aVar 0) (aCons (aCa fLen (aCons (aVar 1) aNil)) aNil))))
  (aRet (aOp fAdd (aOp fAdd (aSl (aVar 1) aNo (aPart (aVar 2))) (aTup (aCons (aTup (aCons (aC (.str "?")) (aCons (aC (.int 0)) aNil))) aNil))) (aSl (aVar 1) (aPart (aCall sp_law_far (aCons (aVar 1) (aCons (aVar 2) aNil)))) aNo))))
theorem ab_law_masked {P : Program} {w : World} {K : PySem.W.Frag} {mg : Str → Option Value} {base : Heap} {sp_law_far sp_law_pick : ASp} (Glaw_far : Cal P w K mg base 1 "_law_far" ["row", "at"] sp_law_far) (Glaw_pick : Cal P w K mg base 1 "_law_pick" ["tape", "many"] sp_law_pick) (T : Bl mg)
  {f : Addr} (cdv : Value) (A : Around) (outer : List PySem.Env) (s : Shared) (H : Hp) (E : XK) (S0 : Hp) (W : PX) (hr : Room 1 (A.deeper (PyProof.Rows.envOfC "_law_masked" (defScope s_law_masked) s.heap.objs.size f cdv)))
  (tk : Takes (cxA P w K mg base N_law_masked "_law_masked" s_law_masked f cdv A outer s H E) (fun cls d _ H' => XW K S0 W cls d H')) :
  AB (cxA P w K mg base N_law_masked "_law_masked" s_law_masked f cdv A outer s H E) S0 (defBody s_law_masked) (b_law_masked sp_law_far sp_law_pick W) :=
  (ab_cons (as_set 2 (ae_cal Glaw_pick (hr.mono (by decide)) (aa_cons (ae_var 0) (aa_cons (ae_len T.len (aa_cons (ae_var 1) aa_nil)) aa_nil))) sc_law_masked.nd)
  (ab_one (as_ret (ae_add (ae_add (ae_sl (ae_var 1) ao_none (ao_some (ae_var 2))) (ae_tup (aa_cons (ae_tup (aa_cons ae_s (aa_cons ae_i aa_nil))) aa_nil))) (ae_sl (ae_var 1) (ao_some (ae_cal Glaw_far (hr.mono (by decide)) (aa_cons (ae_var 1) (aa_cons (ae_var 2) aa_nil)))) ao_none)))))
/-! law_turned: level 2 -/
abbrev s_law_turned : Stmt := topS 32
abbrev N_law_turned : List Str := ["tape", "line", "signs", "at", "sign", "way"]
theorem sc_law_turned : L2.FnScope N_law_turned ["tape", "line"] (defScope s_law_turned) := ⟨rfl, rfl, rfl, by decide +kernel, rfl, by decide +kernel, by decide +kernel⟩
def b_law_turned (sp_law_pick : ASp) (W : PX) : AbS :=
  (aSeq (aSet 2 (aC (.str "az09-.?(),(),()?A_{[/:+ q")))
  (aSeq (aSet 3 (aCall sp_law_pick (aCons (aVar 0) (aCons (aOp fAdd (aCa fLen (aCons (aVar 1) aNil)) (aC (.int 1))) aNil))))
  (aSeq (aSet 4 (aOp fIx (aVar 2) (aCall sp_law_pick (aCons (aVar 0) (aCons (aCa fLen (aCons (aVar 2) aNil)) aNil)))))
  (aSeq (aSet 5 (aCall sp_law_pick (aCons (aVar 0) (aCons (aC (.int 8)) aNil))))
  (aCut (aIf (aTest (aOp fEq (aVar 5) (aC (.int 0)))) (aRet (aOp fAdd (aOp fAdd (aSl (aVar 1) aNo (aPart (aVar 3))) (aVar 4)) (aSl (aVar 1) (aPart (aVar 3)) aNo))) aNext)
  (aCut (aIf (aTest (aOp fEq (aVar 5) (aC (.int 1)))) (aRet (aOp fAdd (aSl (aVar 1) aNo (aPart (aVar 3))) (aSl (aVar 1) (aPart (aOp fAdd (aVar 3) (aC (.int 1)))) aNo))) aNext)
  (aCut (aIf (aTest (aOp fEq (aVar 5) (aC (.int 2)))) (aRet (aSl (aVar 1) aNo (aPart (aVar 3)))) aNext)
  (aCut (aIf (aTest (aOp fEq (aVar 5) (aC (.int 3)))) (aRet (aOp fAdd (aOp fAdd (aSl (aVar 1) aNo (aPart (aVar 3))) (aSl (aVar 1) (aPart (aVar 3)) (aPart (aOp fAdd (aVar 3) (aC (.int 1)))))) (aSl (aVar 1) (aPart (aVar 3)) aNo))) aNext)
  (aCut (aIf (aTest (aOp fEq (aVar 5) (aC (.int 4)))) (aRet (aOp fAdd (aOp fAdd (aOp fAdd (aSl (aVar 1) aNo (aPart (aVar 3))) (aSl (aVar 1) (aPart (aOp fAdd (aVar 3) (aC (.int 1)))) (aPart (aOp fAdd (aVar 3) (aC (.int 2)))))) (aSl (aVar 1) (aPart (aVar 3)) (aPart (aOp fAdd (aVar 3) (aC (.int 1)))))) (aSl (aVar 1) (aPart (aOp fAdd (aVar 3) (aC (.int 2)))) aNo))) aNext)
  (aCut (aIf (aTest (aOp fEq (aVar 5) (aC (.int 5)))) (aRet (aOp fAdd (aVar 1) (aVar 4))) aNext)
  (aRet (aOp fAdd (aOp fAdd (aSl (aVar 1) aNo (aPart (aVar 3))) (aVar 4)) (aSl (aVar 1) (aPart (aOp fAdd (aVar 3) (aC (.int 1)))) aNo)))))))))))))
theorem ab_law_turned {P : Program} {w : World} {K : PySem.W.Frag} {mg : Str → Option Value} {base : Heap} {sp_law_pick : ASp} (Glaw_pick : Cal P w K mg base 1 "_law_pick" ["tape", "many"] sp_law_pick) (T : Bl mg)
  {f : Addr} (cdv : Value) (A : Around) (outer : List PySem.Env) (s : Shared) (H : Hp) (E : XK) (S0 : Hp) (W : PX) (hr : Room 1 (A.deeper (PyProof.Rows.envOfC "_law_turned" (defScope s_law_turned) s.heap.objs.size f cdv)))
  (tk : Takes (cxA P w K mg base N_law_turned "_law_turned" s_law_turned f cdv A outer s H E) (fun cls d _ H' => XW K S0 W cls d H')) :
  AB (cxA P w K mg base N_law_turned "_law_turned" s_law_turned f cdv A outer s H E) S0 (defBody s_law_turned) (b_law_turned sp_law_pick W) :=
  (ab_cons (as_set 2 ae_s sc_law_turned.nd)
  (ab_cons (as_set 3 (ae_cal Glaw_pick (hr.mono (by decide)) (aa_cons (ae_var 0) (aa_cons (ae_add (ae_len T.len (aa_cons (ae_var 1) aa_nil)) ae_i) aa_nil))) sc_law_turned.nd)
  (ab_cons (as_set 4 (ae_ix (ae_var 2) (ae_cal Glaw_pick (hr.mono (by decide)) (aa_cons (ae_var 0) (aa_cons (ae_len T.len (aa_cons (ae_var 2) aa_nil)) aa_nil)))) sc_law_turned.nd)
  (ab_cons (as_set 5 (ae_cal Glaw_pick (hr.mono (by decide)) (aa_cons (ae_var 0) (aa_cons ae_i aa_nil))) sc_law_turned.nd)
  (ab_cut (as_if (at_eq (ae_var 5) ae_i) (ab_one (as_ret (ae_add (ae_add (ae_sl (ae_var 1) ao_none (ao_some (ae_var 3))) (ae_var 4)) (ae_sl (ae_var 1) (ao_some (ae_var 3)) ao_none)))) ab_nil)
  (ab_cut (as_if (at_eq (ae_var 5) ae_i) (ab_one (as_ret (ae_add (ae_sl (ae_var 1) ao_none (ao_some (ae_var 3))) (ae_sl (ae_var 1) (ao_some (ae_add (ae_var 3) ae_i)) ao_none)))) ab_nil)
  (ab_cut (as_if (at_eq (ae_var 5) ae_i) (ab_one (as_ret (ae_sl (ae_var 1) ao_none (ao_some (ae_var 3))))) ab_nil)
  (ab_cut (as_if (at_eq (ae_var 5) ae_i) (ab_one (as_ret (ae_add (ae_add (ae_sl (ae_var 1) ao_none (ao_some (ae_var 3))) (ae_sl (ae_var 1) (ao_some (ae_var 3)) (ao_some (ae_add (ae_var 3) ae_i)))) (ae_sl (ae_var 1) (ao_some (ae_var 3)) ao_none)))) ab_nil)
  (ab_cut (as_if (at_eq (ae_var 5) ae_i) (ab_one (as_ret (ae_add (ae_add (ae_add (ae_sl (ae_var 1) ao_none (ao_some (ae_var 3))) (ae_sl (ae_var 1) (ao_some (ae_add (ae_var 3) ae_i)) (ao_some (ae_add (ae_var 3) ae_i)))) (ae_sl (ae_var 1) (ao_some (ae_var 3)) (ao_some (ae_add (ae_var 3) ae_i)))) (ae_sl (ae_var 1) (ao_some (ae_add (ae_var 3) ae_i)) ao_none)))) ab_nil)
  (ab_cut (as_if (at_eq (ae_var 5) ae_i) (ab_one (as_ret (ae_add (ae_var 1) (ae_var 4)))) ab_nil)
  (ab_one (as_ret (ae_add (ae_add (ae_sl (ae_var 1) ao_none (ao_some (ae_var 3))) (ae_var 4)) (ae_sl (ae_var 1) (ao_some (ae_add (ae_var 3) ae_i)) ao_none))))))))))))))
/-! law_built: level 2 -/
abbrev s_law_built : Stmt := topS 33
abbrev N_law_built : List Str := ["tape", "letters", "far", "several", "head", "deep", "off", "rows"]
theorem sc_law_built : L2.FnScope N_law_built ["tape"] (defScope s_law_built) := ⟨rfl, rfl, rfl, by decide +kernel, rfl, by decide +kernel, by decide +kernel⟩
def b_law_built (sp_law_pick : ASp) (W : PX) : AbS :=
  (aCut (aSet 1 (aC (.str "abcdefghijklmnopqrstuvwxyz")))
  (aCut (aSet 2 (aOp fAdd (aC (.str "b")) (aSl (aOp fRepS (aC (.str "c-9")) (aC (.int 6))) aNo (aPart (aOp fAdd (aC (.int 13)) (aCall sp_law_pick (aCons (aVar 0) (aCons (aC (.int 5)) aNil))))))))
  (aCut (aSet 3 (aJoin (aC (.str ",")) (aSl (aLst (aCons (aC (.str "a")) (aCons (aC (.str ".")) (aCons (aC (.str "?")) (aCons (aC (.str "f(a)")) (aCons (aC (.str "b-1")) (aCons (aC (.str "c")) aNil))))))) aNo (aPart (aOp fAdd (aC (.int 1)) (aCall sp_law_pick (aCons (aVar 0) (aCons (aC (.int 6)) aNil))))))))
  (aCut (aSet 4 (aOp fIx (aLst (aCons (aC (.str "f")) (aCons (aC (.str "g-")) (aCons (aC (.str ".")) (aCons (aC (.str "?")) (aCons (aC (.str "")) (aCons (aC (.str "(")) (aCons (aVar 2) aNil)))))))) (aCall sp_law_pick (aCons (aVar 0) (aCons (aC (.int 7)) aNil)))))
  (aCut (aSet 5 (aOp fIx (aLst (aCons (aC (.int 0)) (aCons (aC (.int 1)) (aCons (aC (.int 2)) (aCons (aC (.int 9)) (aCons (aC (.int 61)) (aCons (aC (.int 150)) aNil))))))) (aCall sp_law_pick (aCons (aVar 0) (aCons (aC (.int 6)) aNil)))))
  (aCut (aSet 6 (aOp fIx (aLst (aCons (aC (.int 0)) (aCons (aC (.int 0)) (aCons (aUn fNeg (aC (.int 1))) (aCons (aC (.int 1)) aNil))))) (aCall sp_law_pick (aCons (aVar 0) (aCons (aC (.int 4)) aNil)))))
  (aCut (aSet 7 (aLst (aCons (aVar 2) (aCons (aOp fAdd (aOp fAdd (aOp fAdd (aVar 2) (aC (.str "("))) (aVar 2)) (aC (.str ")"))) (aCons (aOp fAdd (aOp fAdd (aOp fAdd (aVar 4) (aC (.str "("))) (aVar 3)) (aC (.str ")"))) (aCons (aOp fAdd (aVar 4) (aC (.str "()"))) (aCons (aOp fAdd (aVar 4) (aC (.str "(,a)"))) (aCons (aOp fAdd (aVar 4) (aC (.str "(a,)"))) (aCons (aOp fAdd (aVar 4) (aC (.str ")"))) aNil)))))))))
  (aCut (aSet 7 (aOp fAdd (aVar 7) (aLst (aCons (aOp fAdd (aOp fAdd (aOp fRepS (aC (.str "f(")) (aVar 5)) (aOp fIx (aVar 1) (aCall sp_law_pick (aCons (aVar 0) (aCons (aC (.int 26)) aNil))))) (aOp fRepS (aC (.str ")")) (aCa fMax (aCons (aC (.int 0)) (aCons (aOp fAdd (aVar 5) (aVar 6)) aNil))))) (aCons (aOp fAdd (aOp fAdd (aOp fRepS (aC (.str "g(a,")) (aVar 5)) (aC (.str "."))) (aOp fRepS (aC (.str ")")) (aVar 5))) aNil)))))
  (aCut (aSet 7 (aOp fAdd (aVar 7) (aLst (aCons (aC (.str "")) (aCons (aC (.str ".")) (aCons (aC (.str "?")) (aCons (aC (.str "..")) (aCons (aC (.str "a?")) (aCons (aC (.str "a.")) (aCons (aC (.str ".a")) (aCons (aC (.str "?(a)")) (aCons (aC (.str ".(a)")) (aCons (aC (.str "a,b")) (aCons (aC (.str "f(a)b")) (aCons (aC (.str "f(a)(b)")) (aCons (aC (.str "f(a) ")) (aCons (aC (.str " f(a)")) (aCons (aC (.str "f (a)")) aNil))))))))))))))))))
  (aRet (aOp fIx (aVar 7) (aCall sp_law_pick (aCons (aVar 0) (aCons (aCa fLen (aCons (aVar 7) aNil)) aNil))))))))))))))
theorem ab_law_built {P : Program} {w : World} {K : PySem.W.Frag} {mg : Str → Option Value} {base : Heap} {sp_law_pick : ASp} (Glaw_pick : Cal P w K mg base 1 "_law_pick" ["tape", "many"] sp_law_pick) (T : Bl mg)
  {f : Addr} (cdv : Value) (A : Around) (outer : List PySem.Env) (s : Shared) (H : Hp) (E : XK) (S0 : Hp) (W : PX) (hr : Room 1 (A.deeper (PyProof.Rows.envOfC "_law_built" (defScope s_law_built) s.heap.objs.size f cdv)))
  (tk : Takes (cxA P w K mg base N_law_built "_law_built" s_law_built f cdv A outer s H E) (fun cls d _ H' => XW K S0 W cls d H')) :
  AB (cxA P w K mg base N_law_built "_law_built" s_law_built f cdv A outer s H E) S0 (defBody s_law_built) (b_law_built sp_law_pick W) :=
  (ab_cut (as_set 1 ae_s sc_law_built.nd)
  (ab_cut (as_set 2 (ae_add ae_s (ae_sl (ae_repS ae_s ae_i) ao_none (ao_some (ae_add ae_i (ae_cal Glaw_pick (hr.mono (by decide)) (aa_cons (ae_var 0) (aa_cons ae_i aa_nil))))))) sc_law_built.nd)
  (ab_cut (as_set 3 (ae_join ae_s (ae_sl (ae_lst (aa_cons ae_s (aa_cons ae_s (aa_cons ae_s (aa_cons ae_s (aa_cons ae_s (aa_cons ae_s aa_nil))))))) ao_none (ao_some (ae_add ae_i (ae_cal Glaw_pick (hr.mono (by decide)) (aa_cons (ae_var 0) (aa_cons ae_i aa_nil))))))) sc_law_built.nd)
  (ab_cut (as_set 4 (ae_ix (ae_lst (aa_cons ae_s (aa_cons ae_s (aa_cons ae_s (aa_cons ae_s (aa_cons ae_s (aa_cons ae_s (aa_cons (ae_var 2) aa_nil)))))))) (ae_cal Glaw_pick (hr.mono (by decide)) (aa_cons (ae_var 0) (aa_cons ae_i aa_nil)))) sc_law_built.nd)
  (ab_cut (as_set 5 (ae_ix (ae_lst (aa_cons ae_i (aa_cons ae_i (aa_cons ae_i (aa_cons ae_i (aa_cons ae_i (aa_cons ae_i aa_nil))))))) (ae_cal Glaw_pick (hr.mono (by decide)) (aa_cons (ae_var 0) (aa_cons ae_i aa_nil)))) sc_law_built.nd)
  (ab_cut (as_set 6 (ae_ix (ae_lst (aa_cons ae_i (aa_cons ae_i (aa_cons (ae_neg ae_i) (aa_cons ae_i aa_nil))))) (ae_cal Glaw_pick (hr.mono (by decide)) (aa_cons (ae_var 0) (aa_cons ae_i aa_nil)))) sc_law_built.nd)
  (ab_cut (as_set 7 (ae_lst (aa_cons (ae_var 2) (aa_cons (ae_add (ae_add (ae_add (ae_var 2) ae_s) (ae_var 2)) ae_s) (aa_cons (ae_add (ae_add (ae_add (ae_var 4) ae_s) (ae_var 3)) ae_s) (aa_cons (ae_add (ae_var 4) ae_s) (aa_cons (ae_add (ae_var 4) ae_s) (aa_cons (ae_add (ae_var 4) ae_s) (aa_cons (ae_add (ae_var 4) ae_s) aa_nil)))))))) sc_law_built.nd)
  (ab_cut (as_set 7 (ae_add (ae_var 7) (ae_lst (aa_cons (ae_add (ae_add (ae_repS ae_s (ae_var 5)) (ae_ix (ae_var 1) (ae_cal Glaw_pick (hr.mono (by decide)) (aa_cons (ae_var 0) (aa_cons ae_i aa_nil))))) (ae_repS ae_s (ae_max rfl T.max (aa_cons ae_i (aa_cons (ae_add (ae_var 5) (ae_var 6)) aa_nil))))) (aa_cons (ae_add (ae_add (ae_repS ae_s (ae_var 5)) ae_s) (ae_repS ae_s (ae_var 5))) aa_nil)))) sc_law_built.nd)
  (ab_cut (as_set 7 (ae_add (ae_var 7) (ae_lst (aa_cons ae_s (aa_cons ae_s (aa_cons ae_s (aa_cons ae_s (aa_cons ae_s (aa_cons ae_s (aa_cons ae_s (aa_cons ae_s (aa_cons ae_s (aa_cons ae_s (aa_cons ae_s (aa_cons ae_s (aa_cons ae_s (aa_cons ae_s (aa_cons ae_s aa_nil))))))))))))))))) sc_law_built.nd)
  (ab_one (as_ret (ae_ix (ae_var 7) (ae_cal Glaw_pick (hr.mono (by decide)) (aa_cons (ae_var 0) (aa_cons (ae_len T.len (aa_cons (ae_var 7) aa_nil)) aa_nil)))))))))))))))
/-! law_refusals: level 8 -/
abbrev s_law_refusals : Stmt := topS 34
abbrev N_law_refusals : List Str := ["tape", "tall", "odd", "k", "bad", "due"]
theorem sc_law_refusals : L2.FnScope N_law_refusals ["tape", "tall"] (defScope s_law_refusals) := ⟨rfl, rfl, rfl, by decide +kernel, rfl, by decide +kernel, by decide +kernel⟩
def b_law_refusals (sp_law_asks sp_law_pick sp_law_same : ASp) (W : PX) : AbS :=
  (aCut (aSet 2 (aLst (aCons (aC .non) (aCons (aC (.int 0)) (aCons (aC (.bl true)) (aCons (aTup aNil) (aCons (aTup (aCons (aC (.str "a")) aNil)) (aCons (aLst (aCons (aC (.str "f")) (aCons (aC (.str "a")) aNil))) (aCons (aVar 1) (aCons (aTup (aCons (aTup (aCons (aC (.str "a")) (aCons (aC (.int 0)) aNil))) aNil)) (aCons (aLst (aCons (aC (.str "a")) aNil)) (aCons (aUn fNeg (aC (.int 1))) (aCons (aTup (aCons (aC .non) aNil)) (aCons (aC (.bl false)) (aCons (aLst aNil) (aCons (aOp fPow (aC (.int 10)) (aC (.int 20))) aNil))))))))))))))))
  (aCut (aForR false (aCons (aC (.int 2)) aNil) 3 (aCut (aSet 4 (aOp fIx (aVar 2) (aCall sp_law_pick (aCons (aVar 0) (aCons (aCa fLen (aCons (aVar 2) aNil)) aNil)))))
  (aCut (aSet 5 (aTup (aCons (aC (.str "refused")) (aCons (aC (.bl true)) (aCons (aC (.str "text")) (aCons (aUn fNeg (aC (.int 1))) aNil))))))
  (aIf (aNot (aTru (aCall sp_law_same (aCons (aTup (aCons (aCall sp_law_asks (aCons (aVar 4) (aCons (aC (.bl false)) aNil))) (aCons (aCall sp_law_asks (aCons (aVar 4) (aCons (aC (.bl true)) aNil))) aNil))) (aCons (aTup (aCons (aVar 5) (aCons (aVar 5) aNil))) aNil))))) (aRet (aC (.bl false))) aNext))))
  (aRet (aC (.bl true)))))
theorem ab_law_refusals {P : Program} {w : World} {K : PySem.W.Frag} {mg : Str → Option Value} {base : Heap} {sp_law_asks sp_law_pick sp_law_same : ASp} (Glaw_asks : Cal P w K mg base 7 "_law_asks" ["line", "holes"] sp_law_asks) (Glaw_pick : Cal P w K mg base 1 "_law_pick" ["tape", "many"] sp_law_pick) (Glaw_same : Cal P w K mg base 1 "_law_same" ["told", "due"] sp_law_same) (T : Bl mg)
  {f : Addr} (cdv : Value) (A : Around) (outer : List PySem.Env) (s : Shared) (H : Hp) (E : XK) (S0 : Hp) (W : PX) (hr : Room 7 (A.deeper (PyProof.Rows.envOfC "_law_refusals" (defScope s_law_refusals) s.heap.objs.size f cdv)))
  (tk : Takes (cxA P w K mg base N_law_refusals "_law_refusals" s_law_refusals f cdv A outer s H E) (fun cls d _ H' => XW K S0 W cls d H')) :
  AB (cxA P w K mg base N_law_refusals "_law_refusals" s_law_refusals f cdv A outer s H E) S0 (defBody s_law_refusals) (b_law_refusals sp_law_asks sp_law_pick sp_law_same W) :=
  (ab_cut (as_set 2 (ae_lst (aa_cons ae_n (aa_cons ae_i (aa_cons ae_b (aa_cons (ae_tup aa_nil) (aa_cons (ae_tup (aa_cons ae_s aa_nil)) (aa_cons (ae_lst (aa_cons ae_s (aa_cons ae_s aa_nil))) (aa_cons (ae_var 1) (aa_cons (ae_tup (aa_cons (ae_tup (aa_cons ae_s (aa_cons ae_i aa_nil))) aa_nil)) (aa_cons (ae_lst (aa_cons ae_s aa_nil)) (aa_cons (ae_neg ae_i) (aa_cons (ae_tup (aa_cons ae_n aa_nil)) (aa_cons ae_b (aa_cons (ae_lst aa_nil) (aa_cons (ae_pow ae_i ae_i) aa_nil))))))))))))))) sc_law_refusals.nd)
  (ab_cut (as_forR1 3 (passes_of rfl) rfl T.range (aa_cons ae_i aa_nil) sc_law_refusals.nd (ab_cut (as_set 4 (ae_ix (ae_var 2) (ae_cal Glaw_pick (hr.mono (by decide)) (aa_cons (ae_var 0) (aa_cons (ae_len T.len (aa_cons (ae_var 2) aa_nil)) aa_nil)))) sc_law_refusals.nd)
  (ab_cut (as_set 5 (ae_tup (aa_cons ae_s (aa_cons ae_b (aa_cons ae_s (aa_cons (ae_neg ae_i) aa_nil))))) sc_law_refusals.nd)
  (ab_one (as_if (at_not (at_tru (ae_cal Glaw_same (hr.mono (by decide)) (aa_cons (ae_tup (aa_cons (ae_cal Glaw_asks (hr.mono (by decide)) (aa_cons (ae_var 4) (aa_cons ae_b aa_nil))) (aa_cons (ae_cal Glaw_asks (hr.mono (by decide)) (aa_cons (ae_var 4) (aa_cons ae_b aa_nil))) aa_nil))) (aa_cons (ae_tup (aa_cons (ae_var 5) (aa_cons (ae_var 5) aa_nil))) aa_nil))))) (ab_one (as_ret ae_b)) ab_nil)))))
  (ab_one (as_ret ae_b))))
/-! law: level 9 raises -/
abbrev s_law : Stmt := topS 35
abbrev N_law : List Str := ["script", "tape", "marks", "size", "tall", "mask", "few", "lines", "row", "signs", "limbs", "line", "named", "k"]
theorem sc_law : L2.FnScope N_law ["script"] (defScope s_law) := ⟨rfl, rfl, rfl, by decide +kernel, rfl, by decide +kernel, by decide +kernel⟩
def b_law (sp_law_built sp_law_marks sp_law_masked sp_law_pick sp_law_refusals sp_law_right sp_law_same sp_law_shown sp_law_tape sp_law_tree sp_law_turned sp_read_pattern sp_read_tree sp_shown : ASp) (W : PX) : AbS :=
  (aCut (aSet 1 (aCall sp_law_tape (aCons (aVar 0) aNil)))
  (aCut (aSet 2 (aCall sp_law_marks (aCons (aVar 1) aNil)))
  (aCut (aSet 3 (aOp fAdd (aC (.int 1)) (aCall sp_law_pick (aCons (aVar 1) (aCons (aC (.int 14)) aNil)))))
  (aCut (aIf (aTest (aOp fEq (aCall sp_law_pick (aCons (aVar 1) (aCons (aC (.int 8)) aNil))) (aC (.int 2)))) (aSet 3 (aC (.int 60))) aNext)
  (aCut (aSet 4 (aCall sp_law_tree (aCons (aVar 1) (aCons (aVar 2) (aCons (aVar 3) aNil)))))
  (aCut (aSet 5 (aCall sp_law_masked (aCons (aVar 1) (aCons (aCall sp_law_masked (aCons (aVar 1) (aCons (aVar 4) aNil))) aNil))))
  (aCut (aSet 6 (aCall sp_law_tree (aCons (aVar 1) (aCons (aVar 2) (aCons (aOp fAdd (aC (.int 1)) (aCall sp_law_pick (aCons (aVar 1) (aCons (aC (.int 6)) aNil)))) aNil)))))
  (aCut (aSet 7 (aLstB aNil))
  (aCut (aFor (aLst (aCons (aVar 4) (aCons (aVar 5) (aCons (aVar 6) aNil)))) (kName 8) (aCut (aSet 11 (aCall sp_law_shown (aCons (aVar 8) aNil)))
  (aCut (aIf (aNot (aTru (aCall sp_law_same (aCons (aTup (aCons (aCall sp_shown (aCons (aVar 8) aNil)) (aCons (aCall sp_shown (aCons (aVar 8) aNil)) aNil))) (aCons (aTup (aCons (aVar 11) (aCons (aVar 11) aNil))) aNil))))) (aRet (aC (.bl false))) aNext)
  (aSet 7 (aOp fAddB (aVar 7) (aLst (aCons (aVar 11) (aCons (aCall sp_law_turned (aCons (aVar 1) (aCons (aVar 11) aNil))) (aCons (aCall sp_law_turned (aCons (aVar 1) (aCons (aVar 11) aNil))) (aCons (aCall sp_law_turned (aCons (aVar 1) (aCons (aCall sp_law_turned (aCons (aVar 1) (aCons (aVar 11) aNil))) aNil))) aNil))))))))))
  (aCut (aSet 9 (aC (.str "ab.?(),(),f1- ")))
  (aCut (aDo (aML fApp (aVar 7) (aCons (aJoin (aC (.str "")) (aLcR true (aCons (aCall sp_law_pick (aCons (aVar 1) (aCons (aC (.int 9)) aNil))) aNil) [13] (kName 13) aYes (aOp fIx (aVar 9) (aCall sp_law_pick (aCons (aVar 1) (aCons (aCa fLen (aCons (aVar 9) aNil)) aNil)))))) aNil)))
  (aCut (aSet 7 (aOp fAddB (aVar 7) (aLcR true (aCons (aC (.int 6)) aNil) [13] (kName 13) aYes (aCall sp_law_built (aCons (aVar 1) aNil)))))
  (aCut (aSet 10 (aLcR true (aCons (aOp fAdd (aC (.int 3)) (aCall sp_law_pick (aCons (aVar 1) (aCons (aC (.int 4)) aNil)))) aNil) [13] (kName 13) aYes (aOp fIx (aLst (aCons (aC (.str "a")) (aCons (aC (.str "b-1")) (aCons (aC (.str "f(a)")) (aCons (aC (.str ".")) (aCons (aC (.str "c")) (aCons (aC (.str "?")) aNil))))))) (aCall sp_law_pick (aCons (aVar 1) (aCons (aC (.int 6)) aNil))))))
  (aCut (aDo (aML fApp (aVar 7) (aCons (aOp fAdd (aOp fAdd (aC (.str "g(")) (aJoin (aC (.str ",")) (aVar 10))) (aC (.str ")"))) aNil)))
  (aCut (aFor (aVar 7) (kName 11) (aIf (aNot (aTru (aCall sp_law_right (aCons (aVar 11) aNil)))) (aRet (aC (.bl false))) aNext))
  (aCut (aSet 12 (aTup (aCons (aCall sp_read_tree (aCons (aOp fIx (aVar 7) (aC (.int 0))) aNil)) (aCons (aCall sp_read_pattern (aCons (aOp fIx (aVar 7) (aC (.int 4))) aNil)) (aCons (aCall sp_read_pattern (aCons (aOp fIx (aVar 7) (aC (.int 8))) aNil)) aNil)))))
  (aRet (aAndV (aCall sp_law_same (aCons (aVar 12) (aCons (aTup (aCons (aVar 4) (aCons (aVar 5) (aCons (aVar 6) aNil)))) aNil))) (aCall sp_law_refusals (aCons (aVar 1) (aCons (aVar 4) aNil)))))))))))))))))))))
theorem ab_law {P : Program} {w : World} {K : PySem.W.Frag} {mg : Str → Option Value} {base : Heap} {sp_law_built sp_law_marks sp_law_masked sp_law_pick sp_law_refusals sp_law_right sp_law_same sp_law_shown sp_law_tape sp_law_tree sp_law_turned sp_read_pattern sp_read_tree sp_shown : ASp} (Glaw_built : Cal P w K mg base 2 "_law_built" ["tape"] sp_law_built) (Glaw_marks : Cal P w K mg base 2 "_law_marks" ["tape"] sp_law_marks) (Glaw_masked : Cal P w K mg base 2 "_law_masked" ["tape", "row"] sp_law_masked) (Glaw_pick : Cal P w K mg base 1 "_law_pick" ["tape", "many"] sp_law_pick) (Glaw_refusals : Cal P w K mg base 8 "_law_refusals" ["tape", "tall"] sp_law_refusals) (Glaw_right : Cal P w K mg base 8 "_law_right" ["line"] sp_law_right) (Glaw_same : Cal P w K mg base 1 "_law_same" ["told", "due"] sp_law_same) (Glaw_shown : Cal P w K mg base 2 "_law_shown" ["row"] sp_law_shown) (Glaw_tape : Cal P w K mg base 1 "_law_tape" ["script"] sp_law_tape) (Glaw_tree : Cal P w K mg base 2 "_law_tree" ["tape", "marks", "most"] sp_law_tree) (Glaw_turned : Cal P w K mg base 2 "_law_turned" ["tape", "line"] sp_law_turned) (Gread_pattern : Cal P w K mg base 6 "read_pattern" ["text"] sp_read_pattern) (Gread_tree : Cal P w K mg base 6 "read_tree" ["text"] sp_read_tree) (Gshown : Cal P w K mg base 1 "shown" ["tree"] sp_shown) (T : Bl mg)
  {f : Addr} (cdv : Value) (A : Around) (outer : List PySem.Env) (s : Shared) (H : Hp) (E : XK) (S0 : Hp) (W : PX) (hr : Room 8 (A.deeper (PyProof.Rows.envOfC "law" (defScope s_law) s.heap.objs.size f cdv)))
  (tk : Takes (cxA P w K mg base N_law "law" s_law f cdv A outer s H E) (fun cls d _ H' => XW K S0 W cls d H')) :
  AB (cxA P w K mg base N_law "law" s_law f cdv A outer s H E) S0 (defBody s_law) (b_law sp_law_built sp_law_marks sp_law_masked sp_law_pick sp_law_refusals sp_law_right sp_law_same sp_law_shown sp_law_tape sp_law_tree sp_law_turned sp_read_pattern sp_read_tree sp_shown W) :=
  (ab_cut (as_set 1 (ae_cal Glaw_tape (hr.mono (by decide)) (aa_cons (ae_var 0) aa_nil)) sc_law.nd)
  (ab_cut (as_set 2 (ae_cal Glaw_marks (hr.mono (by decide)) (aa_cons (ae_var 1) aa_nil)) sc_law.nd)
  (ab_cut (as_set 3 (ae_add ae_i (ae_cal Glaw_pick (hr.mono (by decide)) (aa_cons (ae_var 1) (aa_cons ae_i aa_nil)))) sc_law.nd)
  (ab_cut (as_if (at_eq (ae_cal Glaw_pick (hr.mono (by decide)) (aa_cons (ae_var 1) (aa_cons ae_i aa_nil))) ae_i) (ab_one (as_set 3 ae_i sc_law.nd)) ab_nil)
  (ab_cut (as_set 4 (ae_cal Glaw_tree (hr.mono (by decide)) (aa_cons (ae_var 1) (aa_cons (ae_var 2) (aa_cons (ae_var 3) aa_nil)))) sc_law.nd)
  (ab_cut (as_set 5 (ae_cal Glaw_masked (hr.mono (by decide)) (aa_cons (ae_var 1) (aa_cons (ae_cal Glaw_masked (hr.mono (by decide)) (aa_cons (ae_var 1) (aa_cons (ae_var 4) aa_nil))) aa_nil))) sc_law.nd)
  (ab_cut (as_set 6 (ae_cal Glaw_tree (hr.mono (by decide)) (aa_cons (ae_var 1) (aa_cons (ae_var 2) (aa_cons (ae_add ae_i (ae_cal Glaw_pick (hr.mono (by decide)) (aa_cons (ae_var 1) (aa_cons ae_i aa_nil)))) aa_nil)))) sc_law.nd)
  (ab_cut (as_set 7 (ae_lstB aa_nil) sc_law.nd)
  (ab_cut (as_for (passes_of rfl) rfl (ae_lst (aa_cons (ae_var 4) (aa_cons (ae_var 5) (aa_cons (ae_var 6) aa_nil)))) (ag_name 8 sc_law.nd) (ab_cut (as_set 11 (ae_cal Glaw_shown (hr.mono (by decide)) (aa_cons (ae_var 8) aa_nil)) sc_law.nd)
  (ab_cut (as_if (at_not (at_tru (ae_cal Glaw_same (hr.mono (by decide)) (aa_cons (ae_tup (aa_cons (ae_cal Gshown (hr.mono (by decide)) (aa_cons (ae_var 8) aa_nil)) (aa_cons (ae_calK Gshown (hr.mono (by decide)) (ak_cons (ae_var 8) ak_nil)) aa_nil))) (aa_cons (ae_tup (aa_cons (ae_var 11) (aa_cons (ae_var 11) aa_nil))) aa_nil))))) (ab_one (as_ret ae_b)) ab_nil)
  (ab_one (as_set 7 (ae_addB (ae_var 7) (ae_lst (aa_cons (ae_var 11) (aa_cons (ae_cal Glaw_turned (hr.mono (by decide)) (aa_cons (ae_var 1) (aa_cons (ae_var 11) aa_nil))) (aa_cons (ae_cal Glaw_turned (hr.mono (by decide)) (aa_cons (ae_var 1) (aa_cons (ae_var 11) aa_nil))) (aa_cons (ae_cal Glaw_turned (hr.mono (by decide)) (aa_cons (ae_var 1) (aa_cons (ae_cal Glaw_turned (hr.mono (by decide)) (aa_cons (ae_var 1) (aa_cons (ae_var 11) aa_nil))) aa_nil))) aa_nil)))))) sc_law.nd)))))
  (ab_cut (as_set 9 ae_s sc_law.nd)
  (ab_cut (as_expr (ae_app (ae_var 7) (aa_cons (ae_join ae_s (ae_lcR (own := [("k", 13)]) true rfl sc_law.nd (blkOk_by (own := [("k", 13)]) (N := N_law) (sc := defScope s_law) (by decide +kernel)) T.range (aa_cons (ae_cal Glaw_pick (hr.mono (by decide)) (aa_cons (ae_var 1) (aa_cons ae_i aa_nil))) aa_nil) (acg_name 13 (by decide) (fun _ _ _ _ _ => pg_name (i := 13) sc_law.nd rfl (by first | exact Or.inl rfl | exact Or.inr rfl))) ats_nil (fun _ _ _ _ _ => (ae_ix (ae_var 9) (ae_cal Glaw_pick (hr.mono (by decide)) (aa_cons (ae_var 1) (aa_cons (ae_len T.len (aa_cons (ae_var 9) aa_nil)) aa_nil))))))) aa_nil)))
  (ab_cut (as_set 7 (ae_addB (ae_var 7) (ae_lcR (own := [("k", 13)]) true rfl sc_law.nd (blkOk_by (own := [("k", 13)]) (N := N_law) (sc := defScope s_law) (by decide +kernel)) T.range (aa_cons ae_i aa_nil) (acg_name 13 (by decide) (fun _ _ _ _ _ => pg_name (i := 13) sc_law.nd rfl (by first | exact Or.inl rfl | exact Or.inr rfl))) ats_nil (fun _ _ _ _ _ => (ae_cal Glaw_built (hr.mono (by decide)) (aa_cons (ae_var 1) aa_nil))))) sc_law.nd)
  (ab_cut (as_setLcR (own := [("k", 13)]) 10 true rfl sc_law.nd (blkOk_by (own := [("k", 13)]) (N := N_law) (sc := defScope s_law) (by decide +kernel)) T.range (aa_cons (ae_add ae_i (ae_cal Glaw_pick (hr.mono (by decide)) (aa_cons (ae_var 1) (aa_cons ae_i aa_nil)))) aa_nil) (acg_name 13 (by decide) (fun _ _ _ _ _ => pg_name (i := 13) sc_law.nd rfl (by first | exact Or.inl rfl | exact Or.inr rfl))) ats_nil (fun _ _ _ _ _ => (ae_ix (ae_lst (aa_cons ae_s (aa_cons ae_s (aa_cons ae_s (aa_cons ae_s (aa_cons ae_s (aa_cons ae_s aa_nil))))))) (ae_cal Glaw_pick (hr.mono (by decide)) (aa_cons (ae_var 1) (aa_cons ae_i aa_nil))))) (sw_true rfl rfl rfl (by decide +kernel)))
  (ab_cut (as_expr (ae_app (ae_var 7) (aa_cons (ae_add (ae_add ae_s (ae_join ae_s (ae_var 10))) ae_s) aa_nil)))
  (ab_cut (as_for (passes_of rfl) rfl (ae_var 7) (ag_name 11 sc_law.nd) (ab_one (as_if (at_not (at_tru (ae_cal Glaw_right (hr.mono (by decide)) (aa_cons (ae_var 11) aa_nil)))) (ab_one (as_ret ae_b)) ab_nil)))
  (ab_cut (as_set 12 (ae_tup (aa_cons (ae_calK Gread_tree (hr.mono (by decide)) (ak_cons (ae_ix (ae_var 7) ae_i) ak_nil)) (aa_cons (ae_calK Gread_pattern (hr.mono (by decide)) (ak_cons (ae_ix (ae_var 7) ae_i) ak_nil)) (aa_cons (ae_calK Gread_pattern (hr.mono (by decide)) (ak_cons (ae_ix (ae_var 7) ae_i) ak_nil)) aa_nil)))) sc_law.nd)
  (ab_one (as_ret (ae_and (ae_cal Glaw_same (hr.mono (by decide)) (aa_cons (ae_var 12) (aa_cons (ae_tup (aa_cons (ae_var 4) (aa_cons (ae_var 5) (aa_cons (ae_var 6) aa_nil)))) aa_nil))) (ae_one (ae_cal Glaw_refusals (hr.mono (by decide)) (aa_cons (ae_var 1) (aa_cons (ae_var 4) aa_nil)))))))))))))))))))))))
/-! TreeReader_init: level 1 -/
abbrev s_TreeReader_init : Stmt := L2.inClass (topS 15) 0
abbrev N_TreeReader_init : List Str := ["self", "text", "may_have_holes"]
theorem sc_TreeReader_init : L2.FnScope N_TreeReader_init ["self", "text", "may_have_holes"] (defScope s_TreeReader_init) := ⟨rfl, rfl, rfl, by decide +kernel, rfl, by decide +kernel, by decide +kernel⟩
def b_TreeReader_init (C_TreeReader : Addr) (d_HOLE d_SILENT : D) (W : PX) : AbS :=
  (aSeq (aSetFld C_TreeReader "text" (aVar 0) (aVar 1))
  (aSeq (aSetFld C_TreeReader "at" (aVar 0) (aC (.int 0)))
  (aSeq (aSetFld C_TreeReader "single_signs" (aVar 0) (aIfE (aTru (aVar 2)) (aOp fAdd (aC d_SILENT) (aOp fIx (aC d_HOLE) (aC (.int 0)))) (aC d_SILENT)))
  (aSeq (aSetFld C_TreeReader "entries" (aVar 0) (aLstB aNil))
  (aSetFld C_TreeReader "open_entries" (aVar 0) (aLstB aNil))))))
theorem ab_TreeReader_init {P : Program} {w : World} {K : PySem.W.Frag} {mg : Str → Option Value} {base : Heap} {C_TreeReader : Addr} {d_HOLE d_SILENT : D} (A_TreeReader_at : NoAttr K C_TreeReader "at") (A_TreeReader_entries : NoAttr K C_TreeReader "entries") (A_TreeReader_open_entries : NoAttr K C_TreeReader "open_entries") (A_TreeReader_single_signs : NoAttr K C_TreeReader "single_signs") (A_TreeReader_text : NoAttr K C_TreeReader "text") (G_HOLE : Glo K mg "HOLE" d_HOLE) (G_SILENT : Glo K mg "SILENT" d_SILENT) (K_TreeReader : Cls K C_TreeReader)
  {f : Addr} (cdv : Value) (A : Around) (outer : List PySem.Env) (s : Shared) (H : Hp) (E : XK) (S0 : Hp) (W : PX) (hr : Room 0 (A.deeper (PyProof.Rows.envOfC "TreeReader.__init__" (defScope s_TreeReader_init) s.heap.objs.size f cdv)))
  (tk : Takes (cxA P w K mg base N_TreeReader_init "TreeReader.__init__" s_TreeReader_init f cdv A outer s H E) (fun cls d _ H' => XW K S0 W cls d H')) :
  AB (cxA P w K mg base N_TreeReader_init "TreeReader.__init__" s_TreeReader_init f cdv A outer s H E) S0 (defBody s_TreeReader_init) (b_TreeReader_init C_TreeReader d_HOLE d_SILENT W) :=
  (ab_cons (as_fld K_TreeReader A_TreeReader_text (ae_var 0) (ae_var 1))
  (ab_cons (as_fld K_TreeReader A_TreeReader_at (ae_var 0) ae_i)
  (ab_cons (as_fld K_TreeReader A_TreeReader_single_signs (ae_var 0) (ae_if (at_tru (ae_var 2)) (ae_add (ae_glo G_SILENT) (ae_ix (ae_glo G_HOLE) ae_i)) (ae_glo G_SILENT)))
  (ab_cons (as_fld K_TreeReader A_TreeReader_entries (ae_var 0) (ae_lstB aa_nil))
  (ab_one (as_fld K_TreeReader A_TreeReader_open_entries (ae_var 0) (ae_lstB aa_nil)))))))
/-! TreeReader_sign: level 1 -/
abbrev s_TreeReader_sign : Stmt := L2.inClass (topS 15) 1
abbrev N_TreeReader_sign : List Str := ["self"]
theorem sc_TreeReader_sign : L2.FnScope N_TreeReader_sign ["self"] (defScope s_TreeReader_sign) := ⟨rfl, rfl, rfl, by decide +kernel, rfl, by decide +kernel, by decide +kernel⟩
def b_TreeReader_sign (C_TreeReader : Addr) (W : PX) : AbS :=
  (aRet (aSl (aFld C_TreeReader "text" (aVar 0)) (aPart (aFld C_TreeReader "at" (aVar 0))) (aPart (aOp fAdd (aFld C_TreeReader "at" (aVar 0)) (aC (.int 1))))))
theorem ab_TreeReader_sign {P : Program} {w : World} {K : PySem.W.Frag} {mg : Str → Option Value} {base : Heap} {C_TreeReader : Addr} (A_TreeReader_at : NoAttr K C_TreeReader "at") (A_TreeReader_text : NoAttr K C_TreeReader "text") (K_TreeReader : Cls K C_TreeReader)
  {f : Addr} (cdv : Value) (A : Around) (outer : List PySem.Env) (s : Shared) (H : Hp) (E : XK) (S0 : Hp) (W : PX) (hr : Room 0 (A.deeper (PyProof.Rows.envOfC "TreeReader.sign" (defScope s_TreeReader_sign) s.heap.objs.size f cdv)))
  (tk : Takes (cxA P w K mg base N_TreeReader_sign "TreeReader.sign" s_TreeReader_sign f cdv A outer s H E) (fun cls d _ H' => XW K S0 W cls d H')) :
  AB (cxA P w K mg base N_TreeReader_sign "TreeReader.sign" s_TreeReader_sign f cdv A outer s H E) S0 (defBody s_TreeReader_sign) (b_TreeReader_sign C_TreeReader W) :=
  (ab_one (as_ret (ae_sl (ae_fld K_TreeReader A_TreeReader_text (ae_var 0)) (ao_some (ae_fld K_TreeReader A_TreeReader_at (ae_var 0))) (ao_some (ae_add (ae_fld K_TreeReader A_TreeReader_at (ae_var 0)) ae_i)))))
/-! TreeReader_refuse: level 3 raises -/
abbrev s_TreeReader_refuse : Stmt := L2.inClass (topS 15) 2
abbrev N_TreeReader_refuse : List Str := ["self"]
theorem sc_TreeReader_refuse : L2.FnScope N_TreeReader_refuse ["self"] (defScope s_TreeReader_refuse) := ⟨rfl, rfl, rfl, by decide +kernel, rfl, by decide +kernel, by decide +kernel⟩
def b_TreeReader_refuse (C_InvalidText C_TreeReader : Addr) (W : PX) : AbS :=
  (aRaise C_InvalidText "line" "at" W (aCons (aC (.int 0)) (aCons (aFld C_TreeReader "at" (aVar 0)) aNil)))
theorem ab_TreeReader_refuse {P : Program} {w : World} {K : PySem.W.Frag} {mg : Str → Option Value} {base : Heap} {C_InvalidText C_TreeReader : Addr} (A_TreeReader_at : NoAttr K C_TreeReader "at") (K_TreeReader : Cls K C_TreeReader) (R_InvalidText : ErrC P w K mg base "InvalidText" C_InvalidText "line" "at")
  {f : Addr} (cdv : Value) (A : Around) (outer : List PySem.Env) (s : Shared) (H : Hp) (E : XK) (S0 : Hp) (W : PX) (hr : Room 2 (A.deeper (PyProof.Rows.envOfC "TreeReader.refuse" (defScope s_TreeReader_refuse) s.heap.objs.size f cdv)))
  (tk : Takes (cxA P w K mg base N_TreeReader_refuse "TreeReader.refuse" s_TreeReader_refuse f cdv A outer s H E) (fun cls d _ H' => XW K S0 W cls d H')) :
  AB (cxA P w K mg base N_TreeReader_refuse "TreeReader.refuse" s_TreeReader_refuse f cdv A outer s H E) S0 (defBody s_TreeReader_refuse) (b_TreeReader_refuse C_InvalidText C_TreeReader W) :=
  (ab_one (as_rais rfl tk R_InvalidText (hr.mono (by decide)) (aa_cons ae_i (aa_cons (ae_fld K_TreeReader A_TreeReader_at (ae_var 0)) aa_nil))))
/-! TreeReader_read_symbol: level 4 raises -/
abbrev s_TreeReader_read_symbol : Stmt := L2.inClass (topS 15) 3
abbrev N_TreeReader_read_symbol : List Str := ["self", "begin", "sign"]
theorem sc_TreeReader_read_symbol : L2.FnScope N_TreeReader_read_symbol ["self"] (defScope s_TreeReader_read_symbol) := ⟨rfl, rfl, rfl, by decide +kernel, rfl, by decide +kernel, by decide +kernel⟩
def b_TreeReader_read_symbol (C_TreeReader : Addr) (d_LETTERS : D) (sp_TreeReader_read_word_rest sp_TreeReader_refuse sp_TreeReader_sign : ASp) (W : PX) : AbS :=
  (aSeq (aSet 1 (aFld C_TreeReader "at" (aVar 0)))
  (aSeq (aSet 2 (aMeth C_TreeReader "sign" (fun _ _ _ => False) sp_TreeReader_sign (aVar 0) aNil))
  (aCut (aIf (aOr (aTest (aOp fEq (aVar 2) (aC (.str "")))) (aTest (aOp fNi (aVar 2) (aOp fAdd (aC d_LETTERS) (aFld C_TreeReader "single_signs" (aVar 0)))))) (aDo (aMeth C_TreeReader "refuse" W sp_TreeReader_refuse (aVar 0) aNil)) aNext)
  (aSeq (aFldAug C_TreeReader "at" (aVar 0) (aC (.int 1)))
  (aCut (aIf (aTest (aOp fIn (aVar 2) (aC d_LETTERS))) (aDo (aMeth C_TreeReader "read_word_rest" (fun _ _ _ => False) sp_TreeReader_read_word_rest (aVar 0) (aCons (aVar 1) aNil))) aNext)
  (aSeq (aDo (aML fApp (aFld C_TreeReader "entries" (aVar 0)) (aCons (aLstB (aCons (aSl (aFld C_TreeReader "text" (aVar 0)) (aPart (aVar 1)) (aPart (aFld C_TreeReader "at" (aVar 0)))) (aCons (aC (.int 0)) aNil))) aNil)))
  (aRet (aOp fIn (aVar 2) (aC d_LETTERS)))))))))
theorem ab_TreeReader_read_symbol {P : Program} {w : World} {K : PySem.W.Frag} {mg : Str → Option Value} {base : Heap} {C_TreeReader : Addr} {d_LETTERS : D} {sp_TreeReader_read_word_rest sp_TreeReader_refuse sp_TreeReader_sign : ASp} (A_TreeReader_at : NoAttr K C_TreeReader "at") (A_TreeReader_entries : NoAttr K C_TreeReader "entries") (A_TreeReader_single_signs : NoAttr K C_TreeReader "single_signs") (A_TreeReader_text : NoAttr K C_TreeReader "text") (GTreeReader_read_word_rest : CalM P w K mg base 2 C_TreeReader "read_word_rest" ["self", "begin"] sp_TreeReader_read_word_rest) (GTreeReader_refuse : CalM P w K mg base 3 C_TreeReader "refuse" ["self"] sp_TreeReader_refuse) (GTreeReader_sign : CalM P w K mg base 1 C_TreeReader "sign" ["self"] sp_TreeReader_sign) (G_LETTERS : Glo K mg "LETTERS" d_LETTERS) (K_TreeReader : Cls K C_TreeReader)
  {f : Addr} (cdv : Value) (A : Around) (outer : List PySem.Env) (s : Shared) (H : Hp) (E : XK) (S0 : Hp) (W : PX) (hr : Room 3 (A.deeper (PyProof.Rows.envOfC "TreeReader.read_symbol" (defScope s_TreeReader_read_symbol) s.heap.objs.size f cdv)))
  (tk : Takes (cxA P w K mg base N_TreeReader_read_symbol "TreeReader.read_symbol" s_TreeReader_read_symbol f cdv A outer s H E) (fun cls d _ H' => XW K S0 W cls d H')) :
  AB (cxA P w K mg base N_TreeReader_read_symbol "TreeReader.read_symbol" s_TreeReader_read_symbol f cdv A outer s H E) S0 (defBody s_TreeReader_read_symbol) (b_TreeReader_read_symbol C_TreeReader d_LETTERS sp_TreeReader_read_word_rest sp_TreeReader_refuse sp_TreeReader_sign W) :=
  (ab_cons (as_set 1 (ae_fld K_TreeReader A_TreeReader_at (ae_var 0)) sc_TreeReader_read_symbol.nd)
  (ab_cons (as_set 2 (ae_met0 K_TreeReader GTreeReader_sign (hr.mono (by decide)) (ae_var 0)) sc_TreeReader_read_symbol.nd)
  (ab_cut (as_if (aw_at (aw_or (at_eq (ae_var 2) ae_s) (at_or1 (at_ni (ae_var 2) (ae_add (ae_glo G_LETTERS) (ae_fld K_TreeReader A_TreeReader_single_signs (ae_var 0))))))) (ab_one (as_expr (ae_met0X tk K_TreeReader GTreeReader_refuse (hr.mono (by decide)) (ae_var 0)))) ab_nil)
  (ab_cons (as_fldAug K_TreeReader A_TreeReader_at (ae_var 0) ae_i)
  (ab_cut (as_if (at_in (ae_var 2) (ae_glo G_LETTERS)) (ab_one (as_expr (ae_met K_TreeReader GTreeReader_read_word_rest (hr.mono (by decide)) (ae_var 0) (aa_cons (ae_var 1) aa_nil)))) ab_nil)
  (ab_cons (as_expr (ae_app (ae_fld K_TreeReader A_TreeReader_entries (ae_var 0)) (aa_cons (ae_lstB (aa_cons (ae_sl (ae_fld K_TreeReader A_TreeReader_text (ae_var 0)) (ao_some (ae_var 1)) (ao_some (ae_fld K_TreeReader A_TreeReader_at (ae_var 0)))) (aa_cons ae_i aa_nil))) aa_nil)))
  (ab_one (as_ret (ae_in (ae_var 2) (ae_glo G_LETTERS))))))))))
/-! TreeReader_read_word_rest: level 2 -/
abbrev s_TreeReader_read_word_rest : Stmt := L2.inClass (topS 15) 4
abbrev N_TreeReader_read_word_rest : List Str := ["self", "begin", "sign"]
theorem sc_TreeReader_read_word_rest : L2.FnScope N_TreeReader_read_word_rest ["self", "begin"] (defScope s_TreeReader_read_word_rest) := ⟨rfl, rfl, rfl, by decide +kernel, rfl, by decide +kernel, by decide +kernel⟩
def b_TreeReader_read_word_rest (C_TreeReader : Addr) (d_LONGEST_WORD d_WORD_SIGNS : D) (sp_TreeReader_sign : ASp) (W : PX) : AbS :=
  (aSeq (aSet 2 (aMeth C_TreeReader "sign" (fun _ _ _ => False) sp_TreeReader_sign (aVar 0) aNil))
  (aWhile (aAnd (aTest (aOp fNe (aVar 2) (aC (.str "")))) (aAnd (aTest (aOp fIn (aVar 2) (aC d_WORD_SIGNS))) (aTest (aOp fLt (aOp fSub (aFld C_TreeReader "at" (aVar 0)) (aVar 1)) (aC d_LONGEST_WORD))))) (aSeq (aFldAug C_TreeReader "at" (aVar 0) (aC (.int 1)))
  (aSet 2 (aMeth C_TreeReader "sign" (fun _ _ _ => False) sp_TreeReader_sign (aVar 0) aNil)))))
theorem ab_TreeReader_read_word_rest {P : Program} {w : World} {K : PySem.W.Frag} {mg : Str → Option Value} {base : Heap} {C_TreeReader : Addr} {d_LONGEST_WORD d_WORD_SIGNS : D} {sp_TreeReader_sign : ASp} (A_TreeReader_at : NoAttr K C_TreeReader "at") (GTreeReader_sign : CalM P w K mg base 1 C_TreeReader "sign" ["self"] sp_TreeReader_sign) (G_LONGEST_WORD : Glo K mg "LONGEST_WORD" d_LONGEST_WORD) (G_WORD_SIGNS : Glo K mg "WORD_SIGNS" d_WORD_SIGNS) (K_TreeReader : Cls K C_TreeReader)
  {f : Addr} (cdv : Value) (A : Around) (outer : List PySem.Env) (s : Shared) (H : Hp) (E : XK) (S0 : Hp) (W : PX) (hr : Room 1 (A.deeper (PyProof.Rows.envOfC "TreeReader.read_word_rest" (defScope s_TreeReader_read_word_rest) s.heap.objs.size f cdv)))
  (tk : Takes (cxA P w K mg base N_TreeReader_read_word_rest "TreeReader.read_word_rest" s_TreeReader_read_word_rest f cdv A outer s H E) (fun cls d _ H' => XW K S0 W cls d H')) :
  AB (cxA P w K mg base N_TreeReader_read_word_rest "TreeReader.read_word_rest" s_TreeReader_read_word_rest f cdv A outer s H E) S0 (defBody s_TreeReader_read_word_rest) (b_TreeReader_read_word_rest C_TreeReader d_LONGEST_WORD d_WORD_SIGNS sp_TreeReader_sign W) :=
  (ab_cons (as_set 2 (ae_met0 K_TreeReader GTreeReader_sign (hr.mono (by decide)) (ae_var 0)) sc_TreeReader_read_word_rest.nd)
  (ab_one (as_while (passes_of rfl) (aw_at (aw_and (at_ne (ae_var 2) ae_s) (aw_and (at_in (ae_var 2) (ae_glo G_WORD_SIGNS)) (at_and1 (at_lt (ae_sub (ae_fld K_TreeReader A_TreeReader_at (ae_var 0)) (ae_var 1)) (ae_glo G_LONGEST_WORD)))))) (ab_cons (as_fldAug K_TreeReader A_TreeReader_at (ae_var 0) ae_i)
  (ab_one (as_set 2 (ae_met0 K_TreeReader GTreeReader_sign (hr.mono (by decide)) (ae_var 0)) sc_TreeReader_read_word_rest.nd))))))
/-! TreeReader_open_bracket: level 1 -/
abbrev s_TreeReader_open_bracket : Stmt := L2.inClass (topS 15) 5
abbrev N_TreeReader_open_bracket : List Str := ["self"]
theorem sc_TreeReader_open_bracket : L2.FnScope N_TreeReader_open_bracket ["self"] (defScope s_TreeReader_open_bracket) := ⟨rfl, rfl, rfl, by decide +kernel, rfl, by decide +kernel, by decide +kernel⟩
def b_TreeReader_open_bracket (C_TreeReader : Addr) (W : PX) : AbS :=
  (aSeq (aFldAug C_TreeReader "at" (aVar 0) (aC (.int 1)))
  (aSeq (aAsg (aC (.int 1)) (kSub (aOp fIx (aFld C_TreeReader "entries" (aVar 0)) (aUn fNeg (aC (.int 1)))) (aC (.int 1))))
  (aDo (aML fApp (aFld C_TreeReader "open_entries" (aVar 0)) (aCons (aOp fIx (aFld C_TreeReader "entries" (aVar 0)) (aUn fNeg (aC (.int 1)))) aNil)))))
theorem ab_TreeReader_open_bracket {P : Program} {w : World} {K : PySem.W.Frag} {mg : Str → Option Value} {base : Heap} {C_TreeReader : Addr} (A_TreeReader_at : NoAttr K C_TreeReader "at") (A_TreeReader_entries : NoAttr K C_TreeReader "entries") (A_TreeReader_open_entries : NoAttr K C_TreeReader "open_entries") (K_TreeReader : Cls K C_TreeReader)
  {f : Addr} (cdv : Value) (A : Around) (outer : List PySem.Env) (s : Shared) (H : Hp) (E : XK) (S0 : Hp) (W : PX) (hr : Room 0 (A.deeper (PyProof.Rows.envOfC "TreeReader.open_bracket" (defScope s_TreeReader_open_bracket) s.heap.objs.size f cdv)))
  (tk : Takes (cxA P w K mg base N_TreeReader_open_bracket "TreeReader.open_bracket" s_TreeReader_open_bracket f cdv A outer s H E) (fun cls d _ H' => XW K S0 W cls d H')) :
  AB (cxA P w K mg base N_TreeReader_open_bracket "TreeReader.open_bracket" s_TreeReader_open_bracket f cdv A outer s H E) S0 (defBody s_TreeReader_open_bracket) (b_TreeReader_open_bracket C_TreeReader W) :=
  (ab_cons (as_fldAug K_TreeReader A_TreeReader_at (ae_var 0) ae_i)
  (ab_cons (as_asg ae_i (ag_sub (ae_ix (ae_fld K_TreeReader A_TreeReader_entries (ae_var 0)) (ae_neg ae_i)) ae_i))
  (ab_one (as_expr (ae_app (ae_fld K_TreeReader A_TreeReader_open_entries (ae_var 0)) (aa_cons (ae_ix (ae_fld K_TreeReader A_TreeReader_entries (ae_var 0)) (ae_neg ae_i)) aa_nil))))))
/-! TreeReader_read_ends: level 4 raises -/
abbrev s_TreeReader_read_ends : Stmt := L2.inClass (topS 15) 6
abbrev N_TreeReader_read_ends : List Str := ["self", "sign"]
theorem sc_TreeReader_read_ends : L2.FnScope N_TreeReader_read_ends ["self"] (defScope s_TreeReader_read_ends) := ⟨rfl, rfl, rfl, by decide +kernel, rfl, by decide +kernel, by decide +kernel⟩
def b_TreeReader_read_ends (C_TreeReader : Addr) (d_MOST_PARTS : D) (sp_TreeReader_refuse sp_TreeReader_sign : ASp) (W : PX) : AbS :=
  (aSeq (aWhile (aTru (aFld C_TreeReader "open_entries" (aVar 0))) (aSeq (aSet 1 (aMeth C_TreeReader "sign" (fun _ _ _ => False) sp_TreeReader_sign (aVar 0) aNil))
  (aCut (aIf (aAnd (aTest (aOp fEq (aVar 1) (aC (.str ",")))) (aTest (aOp fLt (aOp fIx (aOp fIx (aFld C_TreeReader "open_entries" (aVar 0)) (aUn fNeg (aC (.int 1)))) (aC (.int 1))) (aC d_MOST_PARTS)))) (aSeq (aFldAug C_TreeReader "at" (aVar 0) (aC (.int 1)))
  (aSeq (aAugIx (fun i j => i + j) (aOp fIx (aFld C_TreeReader "open_entries" (aVar 0)) (aUn fNeg (aC (.int 1)))) (aC (.int 1)) (aC (.int 1)))
  (aRet (aC (.bl true))))) aNext)
  (aCut (aIf (aTest (aOp fNe (aVar 1) (aC (.str ")")))) (aDo (aMeth C_TreeReader "refuse" W sp_TreeReader_refuse (aVar 0) aNil)) aNext)
  (aSeq (aFldAug C_TreeReader "at" (aVar 0) (aC (.int 1)))
  (aDo (aML fPop (aFld C_TreeReader "open_entries" (aVar 0)) aNil)))))))
  (aRet (aC (.bl false))))
theorem ab_TreeReader_read_ends {P : Program} {w : World} {K : PySem.W.Frag} {mg : Str → Option Value} {base : Heap} {C_TreeReader : Addr} {d_MOST_PARTS : D} {sp_TreeReader_refuse sp_TreeReader_sign : ASp} (A_TreeReader_at : NoAttr K C_TreeReader "at") (A_TreeReader_open_entries : NoAttr K C_TreeReader "open_entries") (GTreeReader_refuse : CalM P w K mg base 3 C_TreeReader "refuse" ["self"] sp_TreeReader_refuse) (GTreeReader_sign : CalM P w K mg base 1 C_TreeReader "sign" ["self"] sp_TreeReader_sign) (G_MOST_PARTS : Glo K mg "MOST_PARTS" d_MOST_PARTS) (K_TreeReader : Cls K C_TreeReader)
  {f : Addr} (cdv : Value) (A : Around) (outer : List PySem.Env) (s : Shared) (H : Hp) (E : XK) (S0 : Hp) (W : PX) (hr : Room 3 (A.deeper (PyProof.Rows.envOfC "TreeReader.read_ends" (defScope s_TreeReader_read_ends) s.heap.objs.size f cdv)))
  (tk : Takes (cxA P w K mg base N_TreeReader_read_ends "TreeReader.read_ends" s_TreeReader_read_ends f cdv A outer s H E) (fun cls d _ H' => XW K S0 W cls d H')) :
  AB (cxA P w K mg base N_TreeReader_read_ends "TreeReader.read_ends" s_TreeReader_read_ends f cdv A outer s H E) S0 (defBody s_TreeReader_read_ends) (b_TreeReader_read_ends C_TreeReader d_MOST_PARTS sp_TreeReader_refuse sp_TreeReader_sign W) :=
  (ab_cons (as_while (passes_of rfl) (at_tru (ae_fld K_TreeReader A_TreeReader_open_entries (ae_var 0))) (ab_cons (as_set 1 (ae_met0 K_TreeReader GTreeReader_sign (hr.mono (by decide)) (ae_var 0)) sc_TreeReader_read_ends.nd)
  (ab_cut (as_if (aw_at (aw_and (at_eq (ae_var 1) ae_s) (at_and1 (at_lt (ae_ix (ae_ix (ae_fld K_TreeReader A_TreeReader_open_entries (ae_var 0)) (ae_neg ae_i)) ae_i) (ae_glo G_MOST_PARTS))))) (ab_cons (as_fldAug K_TreeReader A_TreeReader_at (ae_var 0) ae_i)
  (ab_cons (as_augIx ip_add (ae_ix (ae_fld K_TreeReader A_TreeReader_open_entries (ae_var 0)) (ae_neg ae_i)) ae_i ae_i)
  (ab_one (as_ret ae_b)))) ab_nil)
  (ab_cut (as_if (at_ne (ae_var 1) ae_s) (ab_one (as_expr (ae_met0X tk K_TreeReader GTreeReader_refuse (hr.mono (by decide)) (ae_var 0)))) ab_nil)
  (ab_cons (as_fldAug K_TreeReader A_TreeReader_at (ae_var 0) ae_i)
  (ab_one (as_expr (ae_pop (ae_fld K_TreeReader A_TreeReader_open_entries (ae_var 0))))))))))
  (ab_one (as_ret ae_b)))
/-! TreeReader_read_all: level 5 raises -/
abbrev s_TreeReader_read_all : Stmt := L2.inClass (topS 15) 7
abbrev N_TreeReader_read_all : List Str := ["self", "goes_on", "may_open", "word", "many"]
theorem sc_TreeReader_read_all : L2.FnScope N_TreeReader_read_all ["self"] (defScope s_TreeReader_read_all) := ⟨rfl, rfl, rfl, by decide +kernel, rfl, by decide +kernel, by decide +kernel⟩
def b_TreeReader_read_all (C_TreeReader : Addr) (sp_TreeReader_open_bracket sp_TreeReader_read_ends sp_TreeReader_read_symbol sp_TreeReader_refuse sp_TreeReader_sign : ASp) (W : PX) : AbS :=
  (aSeq (aSet 1 (aC (.bl true)))
  (aSeq (aWhile (aTru (aVar 1)) (aSeq (aSet 2 (aMeth C_TreeReader "read_symbol" W sp_TreeReader_read_symbol (aVar 0) aNil))
  (aIf (aAnd (aTru (aVar 2)) (aTest (aOp fEq (aMeth C_TreeReader "sign" (fun _ _ _ => False) sp_TreeReader_sign (aVar 0) aNil) (aC (.str "("))))) (aDo (aMeth C_TreeReader "open_bracket" (fun _ _ _ => False) sp_TreeReader_open_bracket (aVar 0) aNil)) (aSet 1 (aMeth C_TreeReader "read_ends" W sp_TreeReader_read_ends (aVar 0) aNil)))))
  (aCut (aIf (aTest (aOp fLt (aFld C_TreeReader "at" (aVar 0)) (aCa fLen (aCons (aFld C_TreeReader "text" (aVar 0)) aNil)))) (aDo (aMeth C_TreeReader "refuse" W sp_TreeReader_refuse (aVar 0) aNil)) aNext)
  (aRet (aCa fTuple (aCons (aLc true (aFld C_TreeReader "entries" (aVar 0)) [3, 4] (kTwo 3 4) aYes (aTup (aCons (aVar 3) (aCons (aVar 4) aNil)))) aNil))))))
theorem ab_TreeReader_read_all {P : Program} {w : World} {K : PySem.W.Frag} {mg : Str → Option Value} {base : Heap} {C_TreeReader : Addr} {sp_TreeReader_open_bracket sp_TreeReader_read_ends sp_TreeReader_read_symbol sp_TreeReader_refuse sp_TreeReader_sign : ASp} (A_TreeReader_at : NoAttr K C_TreeReader "at") (A_TreeReader_entries : NoAttr K C_TreeReader "entries") (A_TreeReader_text : NoAttr K C_TreeReader "text") (GTreeReader_open_bracket : CalM P w K mg base 1 C_TreeReader "open_bracket" ["self"] sp_TreeReader_open_bracket) (GTreeReader_read_ends : CalM P w K mg base 4 C_TreeReader "read_ends" ["self"] sp_TreeReader_read_ends) (GTreeReader_read_symbol : CalM P w K mg base 4 C_TreeReader "read_symbol" ["self"] sp_TreeReader_read_symbol) (GTreeReader_refuse : CalM P w K mg base 3 C_TreeReader "refuse" ["self"] sp_TreeReader_refuse) (GTreeReader_sign : CalM P w K mg base 1 C_TreeReader "sign" ["self"] sp_TreeReader_sign) (K_TreeReader : Cls K C_TreeReader) (T : Bl mg)
  {f : Addr} (cdv : Value) (A : Around) (outer : List PySem.Env) (s : Shared) (H : Hp) (E : XK) (S0 : Hp) (W : PX) (hr : Room 4 (A.deeper (PyProof.Rows.envOfC "TreeReader.read_all" (defScope s_TreeReader_read_all) s.heap.objs.size f cdv)))
  (tk : Takes (cxA P w K mg base N_TreeReader_read_all "TreeReader.read_all" s_TreeReader_read_all f cdv A outer s H E) (fun cls d _ H' => XW K S0 W cls d H')) :
  AB (cxA P w K mg base N_TreeReader_read_all "TreeReader.read_all" s_TreeReader_read_all f cdv A outer s H E) S0 (defBody s_TreeReader_read_all) (b_TreeReader_read_all C_TreeReader sp_TreeReader_open_bracket sp_TreeReader_read_ends sp_TreeReader_read_symbol sp_TreeReader_refuse sp_TreeReader_sign W) :=
  (ab_cons (as_set 1 ae_b sc_TreeReader_read_all.nd)
  (ab_cons (as_while (passes_of rfl) (at_tru (ae_var 1)) (ab_cons (as_set 2 (ae_met0X tk K_TreeReader GTreeReader_read_symbol (hr.mono (by decide)) (ae_var 0)) sc_TreeReader_read_all.nd)
  (ab_one (as_if (aw_at (aw_and (at_tru (ae_var 2)) (at_and1 (at_eq (ae_met0 K_TreeReader GTreeReader_sign (hr.mono (by decide)) (ae_var 0)) ae_s)))) (ab_one (as_expr (ae_met0 K_TreeReader GTreeReader_open_bracket (hr.mono (by decide)) (ae_var 0)))) (ab_one (as_set 1 (ae_met0X tk K_TreeReader GTreeReader_read_ends (hr.mono (by decide)) (ae_var 0)) sc_TreeReader_read_all.nd))))))
  (ab_cut (as_if (at_lt (ae_fld K_TreeReader A_TreeReader_at (ae_var 0)) (ae_len T.len (aa_cons (ae_fld K_TreeReader A_TreeReader_text (ae_var 0)) aa_nil))) (ab_one (as_expr (ae_met0X tk K_TreeReader GTreeReader_refuse (hr.mono (by decide)) (ae_var 0)))) ab_nil)
  (ab_one (as_ret (ae_tuple T.tuple (aa_cons (ae_lc (own := [("word", 3), ("many", 4)]) true rfl sc_TreeReader_read_all.nd (blkOk_by (own := [("word", 3), ("many", 4)]) (N := N_TreeReader_read_all) (sc := defScope s_TreeReader_read_all) (by decide +kernel)) (ae_fld K_TreeReader A_TreeReader_entries (ae_var 0)) (acg_two 3 4 (by decide) (by decide) (fun _ _ _ _ _ => pg_tup rfl (pgs_cons (pg_name (i := 3) sc_TreeReader_read_all.nd rfl (Or.inl rfl)) (pgs_cons (pg_name (i := 4) sc_TreeReader_read_all.nd rfl (Or.inl rfl)) pgs_nil))) (fun _ _ _ _ _ => pg_lst rfl (pgs_cons (pg_name (i := 3) sc_TreeReader_read_all.nd rfl (Or.inl rfl)) (pgs_cons (pg_name (i := 4) sc_TreeReader_read_all.nd rfl (Or.inl rfl)) pgs_nil)))) ats_nil (fun _ _ _ _ _ => (ae_tup (aa_cons (ae_var 3) (aa_cons (ae_var 4) aa_nil))))) aa_nil)))))))
end AL
set_option maxHeartbeats 2000000
namespace AL
open PySem L2 Evl
/-! ### symbols, rows of symbols -/
structure Sy where
  w : List Nat
  n : Nat
def tx (l : List Nat) : Str := ⟨l.toArray⟩
theorem tx_len (l : List Nat) : (tx l).length = l.length := by
  show l.toArray.size = l.length
  simp
theorem tx_app (l r : List Nat) : tx l ++ tx r = tx (l ++ r) := by
  show (⟨l.toArray ++ r.toArray⟩ : Str) = ⟨(l ++ r).toArray⟩
  simp
theorem tx_inj {l r : List Nat} : tx l = tx r ↔ l = r := by
  constructor
  · intro h
    have := congrArg (fun s : Str => s.cps.toList) h
    simpa [tx] using this
  · intro h
    rw [h]
theorem tx_cps (l : List Nat) : (tx l).cps.toList = l := by simp [tx]
def syD (s : Sy) : D := .tup [.str (tx s.w), .int (s.n : Int)]
def rowD (r : List Sy) : D := .tup (r.map syD)
theorem row_get {r : List Sy} {i : Nat} {s : Sy} (h : r[i]? = some s) : (r.map syD)[i]? = some (syD s) := by
  rw [List.getElem?_map, h]
  rfl
theorem atI_nn {α : Type} {xs : List α} {i : Nat} {v : α} (h : xs[i]? = some v) : atI xs (i : Int) = some v := by
  unfold atI ixN
  have hl : i < xs.length := (List.getElem?_eq_some_iff.mp h).1
  rw [if_pos (by omega), if_pos (by omega)]
  exact h
theorem atI_i {α : Type} {xs : List α} {k : Int} {i : Nat} {v : α} (e : k = i) (h : xs[i]? = some v) : atI xs k = some v := by
  rw [e]
  exact atI_nn h
theorem ixN_last {n : Nat} (h : 0 < n) : ixN n (-1) = some (n - 1) := by
  unfold ixN
  rw [if_neg (by omega), if_pos (by omega)]
  congr 1
  omega
theorem atI_last {α : Type} {xs : List α} {v : α} : atI (xs ++ [v]) (-1) = some v := by
  unfold atI
  rw [ixN_last (by simp)]
  simp
theorem int_eq {i j : Int} (h : i = j) : D.int i = D.int j := by rw [h]
/-- how many symbols the n pieces have with which r begins -/
def far : List Sy → Nat → Nat
  | [], _ => 0
  | _, 0 => 0
  | s :: r, n + 1 => far r (n + s.n) + 1
theorem far_nil (n : Nat) : far [] n = 0 := by cases n <;> rfl
theorem far_zero (r : List Sy) : far r 0 = 0 := by cases r <;> rfl
/-- r begins with n whole pieces -/
def okRow : List Sy → Nat → Bool
  | _, 0 => true
  | [], _ + 1 => false
  | s :: r, n + 1 => okRow r (n + s.n)
theorem okRow_zero (r : List Sy) : okRow r 0 = true := by cases r <;> rfl
theorem far_le : ∀ (r : List Sy) (n : Nat), far r n ≤ r.length
  | [], n => by rw [far_nil]; exact Nat.zero_le _
  | s :: r, 0 => Nat.zero_le _
  | s :: r, n + 1 => by
    show far r (n + s.n) + 1 ≤ r.length + 1
    exact Nat.succ_le_succ (far_le r _)
/-- what is wanted behind r, where n pieces were ahead -/
def run : List Sy → Nat → Option Nat
  | [], n => some n
  | _ :: _, 0 => none
  | s :: r, n + 1 => run r (n + s.n)
def whole (r : List Sy) : Prop := run r 1 = some 0
theorem run_app : ∀ (a b : List Sy) (n : Nat), run (a ++ b) n = (run a n).bind (run b)
  | [], b, n => rfl
  | s :: a, b, 0 => rfl
  | s :: a, b, n + 1 => run_app a b (n + s.n)
theorem run_more : ∀ (a : List Sy) (n k j : Nat), run a n = some k → run a (n + j) = some (k + j)
  | [], n, k, j, h => by
    cases h
    rfl
  | s :: a, 0, k, j, h => by cases h
  | s :: a, n + 1, k, j, h => by
    have := run_more a (n + s.n) k j h
    rw [Nat.add_right_comm] at this
    rw [show n + 1 + j = (n + j) + 1 by omega]
    exact this
theorem run_okRow : ∀ (r : List Sy) (n : Nat), run r n = some 0 → okRow r n = true ∧ far r n = r.length
  | [], n, h => by
    cases h
    exact ⟨rfl, rfl⟩
  | s :: r, 0, h => by cases h
  | s :: r, n + 1, h => by
    obtain ⟨h1, h2⟩ := run_okRow r (n + s.n) h
    exact ⟨h1, by show far r (n + s.n) + 1 = r.length + 1; rw [h2]⟩
/-- where n pieces begin a row, they end at far -/
theorem okRow_run : ∀ (r : List Sy) (n : Nat), okRow r n = true → run (r.take (far r n)) n = some 0
  | r, 0, h => by
    rw [far_zero]
    rfl
  | [], n + 1, h => by cases h
  | s :: r, n + 1, h => okRow_run r (n + s.n) h
theorem run_ok_drop : ∀ (r : List Sy) (n j : Nat), run r n = some 0 → run (r.take j) n = some j' → okRow (r.drop j) j' = true := by
  intro r n j h h'
  have h2 := run_app (r.take j) (r.drop j) n
  rw [List.take_append_drop, h, h'] at h2
  exact (run_okRow _ _ h2.symm).1
theorem run_take : ∀ (r : List Sy) (n j : Nat), run r n = some 0 → j < r.length → ∃ k, run (r.take j) n = some (k + 1)
  | [], n, j, h, hj => by simp at hj
  | s :: r, 0, j, h, hj => by cases h
  | s :: r, n + 1, 0, h, hj => ⟨n, rfl⟩
  | s :: r, n + 1, j + 1, h, hj => run_take r (n + s.n) j h (by simpa using hj)
/-- at each node a piece begins -/
theorem whole_piece {r : List Sy} (h : whole r) {j : Nat} (hj : j < r.length) : okRow (r.drop j) 1 = true := by
  obtain ⟨k, hk⟩ := run_take r 1 j h hj
  have := run_ok_drop r 1 j h hk
  have mono : ∀ (l : List Sy) (n i : Nat), okRow l (n + i) = true → okRow l i = true := by
    intro l
    induction l with
    | nil =>
      intro n i h
      cases i with
      | zero => rfl
      | succ i => cases h
    | cons s l ih =>
      intro n i h
      cases i with
      | zero => rfl
      | succ i => exact ih n (i + s.n) (by rw [← Nat.add_assoc]; exact h)
  exact mono _ k 1 this
/-- another piece put there -/
theorem whole_put {r p : List Sy} (h : whole r) (hp : whole p) {j : Nat} (hj : j < r.length) : whole (r.take j ++ p ++ r.drop (j + far (r.drop j) 1)) := by
  obtain ⟨k, hk⟩ := run_take r 1 j h hj
  have hpc := whole_piece h hj
  have e1 : r = r.take j ++ ((r.drop j).take (far (r.drop j) 1) ++ r.drop (j + far (r.drop j) 1)) := by
    rw [← List.drop_drop, List.take_append_drop, List.take_append_drop]
  have h1 : run r 1 = some 0 := h
  rw [e1, run_app, hk] at h1
  have h2 : run ((r.drop j).take (far (r.drop j) 1) ++ r.drop (j + far (r.drop j) 1)) (k + 1) = some 0 := h1
  rw [run_app, Nat.add_comm k 1, run_more _ 1 0 k (okRow_run _ _ hpc)] at h2
  have h3 : run (r.drop (j + far (r.drop j) 1)) (0 + k) = some 0 := h2
  show run _ 1 = some 0
  rw [run_app, run_app, hk]
  show (run p (k + 1)).bind _ = some 0
  rw [Nat.add_comm k 1, run_more _ 1 0 k hp]
  exact h3
theorem fIx_row {r : List Sy} {i : Nat} {s : Sy} {m : Mu} {P : PD} (h : r[i]? = some s) : fIx (rowD r) (.int (i : Int)) m P = P (syD s) m := fIx_t (atI_nn (row_get h))
theorem fIx_sy0 {s : Sy} {m : Mu} {P : PD} : fIx (syD s) (.int 0) m P = P (.str (tx s.w)) m := fIx_t0
theorem fIx_sy1 {s : Sy} {m : Mu} {P : PD} : fIx (syD s) (.int 1) m P = P (.int (s.n : Int)) m := fIx_t1
theorem at_drop {α : Type} {r t : List α} {i : Nat} {s : α} (h : r.drop i = s :: t) : r[i]? = some s ∧ r.drop (i + 1) = t ∧ i < r.length := by
  have h1 : r[i]? = some s := by
    have := congrArg (·[0]?) h
    simpa using this
  refine ⟨h1, ?_, (List.getElem?_eq_some_iff.mp h1).1⟩
  rw [← List.drop_drop, h] <;> rfl
/-! ### data without lists or boxes -/
mutual
def pure? : D → Bool
  | .tup ds => pures? ds
  | .lst _ => false
  | .scr _ => false
  | .box _ => false
  | .ty _ => false
  | _ => true
def pures? : List D → Bool
  | [] => true
  | d :: ds => pure? d && pures? ds
end
mutual
def dsize : D → Nat
  | .tup ds => dsizes ds + 1
  | _ => 1
def dsizes : List D → Nat
  | [] => 0
  | d :: ds => dsize d + dsizes ds
end
theorem dsizes_app : ∀ (a b : List D), dsizes (a ++ b) = dsizes a + dsizes b
  | [], b => by simp [dsizes]
  | d :: a, b => by
    show dsize d + dsizes (a ++ b) = dsize d + dsizes a + dsizes b
    rw [dsizes_app a b, Nat.add_assoc]
theorem pures_app : ∀ (a b : List D), pures? (a ++ b) = (pures? a && pures? b)
  | [], b => by simp [pures?]
  | d :: a, b => by
    show (pure? d && pures? (a ++ b)) = _
    rw [pures_app a b, ← Bool.and_assoc]
    rfl
theorem len_dsizes : ∀ (a : List D), a.length ≤ dsizes a
  | [] => Nat.le_refl _
  | d :: a => by
    have h1 : 1 ≤ dsize d := by cases d <;> simp [dsize]
    have := len_dsizes a
    show a.length + 1 ≤ dsize d + dsizes a
    omega
theorem pures_get : ∀ {a : List D} {i : Nat} {d : D}, pures? a = true → a[i]? = some d → pure? d = true
  | d :: a, 0, e, h, g => by
    rw [List.getElem?_cons_zero] at g
    cases g
    exact (Bool.and_eq_true_iff.mp h).1
  | d :: a, i + 1, e, h, g => by
    rw [List.getElem?_cons_succ] at g
    exact pures_get (Bool.and_eq_true_iff.mp h).2 g
theorem row_pure (r : List Sy) : pure? (rowD r) = true := by
  show pures? (r.map syD) = true
  induction r with
  | nil => rfl
  | cons s r ih =>
    show (pure? (syD s) && pures? (r.map syD)) = true
    rw [ih] <;> rfl
theorem row_size (r : List Sy) : dsize (rowD r) = 3 * r.length + 1 := by
  show dsizes (r.map syD) + 1 = _
  induction r with
  | nil => rfl
  | cons s r ih =>
    show dsize (syD s) + dsizes (r.map syD) + 1 = _
    have : dsize (syD s) = 3 := rfl
    rw [List.length_cons]
    omega
/-! ### comprehensions whose turns change nothing -/
def PvF (m : Mu) (p : Addr) (f : Nat → Option D) (i : Nat) (acc : List D) (m' : Mu) : Prop := acc = (List.range i).filterMap f ∧ m' = mset m p (.lst acc)
theorem pvF_start {m : Mu} {p : Addr} {f : Nat → Option D} : PvF m p f 0 [] (mset m p (.lst [])) := ⟨rfl, rfl⟩
theorem pvF_yes {m : Mu} {p : Addr} {f : Nat → Option D} {i : Nat} {acc : List D} {y : D} (h : acc = (List.range i).filterMap f) (hf : f i = some y) :
    (mset m p (.lst acc)) p = some (.lst acc) ∧ PvF m p f (i + 1) (acc ++ [y]) (mset (mset m p (.lst acc)) p (.lst (acc ++ [y]))) := by
  refine ⟨mset_same, ?_, mset_mset⟩
  rw [List.range_succ, List.filterMap_append, ← h]
  simp [hf]
theorem pvF_no {m : Mu} {p : Addr} {f : Nat → Option D} {i : Nat} {acc : List D} (h : acc = (List.range i).filterMap f) (hf : f i = none) : PvF m p f (i + 1) acc (mset m p (.lst acc)) := by
  refine ⟨?_, rfl⟩
  rw [List.range_succ, List.filterMap_append, ← h]
  simp [hf]
theorem lc_pure {n : Nat} {item : Nat → D} {okm : Mu → Prop} {g : Sl} {vs : List Nat} {k : AbG} {ft : AbT} {fe : Ab} {p : Addr} {m : Mu} {R : List D → Mu → Prop} (f : Nat → Option D) (hn : n < 100000) (hok : ∀ acc, okm (mset m p (.lst acc)))
    (turn : ∀ i acc, i < n → acc = (List.range i).filterMap f → k (item i) (wipeD g vs) (mset m p (.lst acc)) fun g2 m2 => ft g2 m2 fun b m3 =>
      if b = true then fe g2 m3 fun y m4 => m4 p = some (.lst acc) ∧ PvF m p f (i + 1) (acc ++ [y]) (mset m4 p (.lst (acc ++ [y]))) else PvF m p f (i + 1) acc m3)
    (fin : R ((List.range n).filterMap f) (mset m p (.lst ((List.range n).filterMap f)))) :
    ∃ Pv : Nat → List D → Mu → Prop, Pv 0 [] (mset m p (.lst [])) ∧ lcTurns n item okm g vs k ft fe p Pv ∧ ∀ acc m', Pv n acc m' → R acc m' := by
  refine ⟨PvF m p f, pvF_start, ⟨fun i acc m' hi h => ?_, fun i acc m' hi h => ?_⟩, fun acc m' h => ?_⟩
  · obtain ⟨h1, rfl⟩ := h
    refine ⟨hok acc, mset_same, ?_⟩
    rw [h1]
    have := List.length_filterMap_le f (List.range i)
    rw [List.length_range] at this
    omega
  · obtain ⟨h1, rfl⟩ := h
    exact turn i acc hi h1
  · obtain ⟨rfl, rfl⟩ := h
    exact fin
theorem fm_map {α : Type} {f : Nat → Option D} {l : List α} {g : α → D} (h : ∀ i a, l[i]? = some a → f i = some (g a)) : (List.range l.length).filterMap f = l.map g := by
  have : ∀ k, k ≤ l.length → (List.range k).filterMap f = (l.take k).map g := by
    intro k
    induction k with
    | zero =>
      intro _
      rfl
    | succ k ih =>
      intro hk
      have hlt : k < l.length := hk
      rw [List.range_succ, List.filterMap_append, ih (by omega), List.take_succ, List.map_append, List.getElem?_eq_getElem hlt]
      simp [h k l[k] (List.getElem?_eq_getElem hlt)]
  have h2 := this l.length (Nat.le_refl _)
  rw [List.take_length] at h2
  exact h2
/-! ### the tape of draws -/
def tapeD (c s : Addr) : D := .lst [.box c, .box s]
structure TapeIn (m : Mu) (c s : Addr) : Prop where
  ne : c ≠ s
  ex : ∃ (cells : List Int) (st : Int), m c = some (.lst (cells.map .int)) ∧ m s = some (.lst [.int st]) ∧ (∀ x ∈ cells, 0 ≤ x) ∧ 0 ≤ st ∧ st < 2147483647 ∧ cells.length ≤ 63
/-- the tape has moved on, nothing else -/
structure Tp (c s : Addr) (m m' : Mu) : Prop where
  tp : TapeIn m' c s
  eq : ∀ a, a ≠ c → a ≠ s → m' a = m a
theorem Tp.refl {c s : Addr} {m : Mu} (h : TapeIn m c s) : Tp c s m m := ⟨h, fun _ _ _ => rfl⟩
theorem Tp.trans {c s : Addr} {m m1 m2 : Mu} (a : Tp c s m m1) (b : Tp c s m1 m2) : Tp c s m m2 := ⟨b.tp, fun x h1 h2 => (b.eq x h1 h2).trans (a.eq x h1 h2)⟩
theorem Tp.at {c s p : Addr} {m m' : Mu} {o : MO} (h : Tp c s m m') (hp : m p = some o) (h1 : p ≠ c) (h2 : p ≠ s) : m' p = some o := (h.eq p h1 h2).trans hp
theorem TapeIn.apart {m : Mu} {c s p : Addr} (h : TapeIn m c s) (hp : m p = none) : p ≠ c ∧ p ≠ s := by
  obtain ⟨_, cells, st, h1, h2, _⟩ := h
  constructor
  · rintro rfl
    rw [hp] at h1
    cases h1
  · rintro rfl
    rw [hp] at h2
    cases h2
theorem TapeIn.set {m : Mu} {c s p : Addr} {o : MO} (h : TapeIn m c s) (h1 : p ≠ c) (h2 : p ≠ s) : TapeIn (mset m p o) c s := by
  obtain ⟨ne, cells, st, a1, a2, a3⟩ := h
  exact ⟨ne, cells, st, (mset_ne (Ne.symm h1)).trans a1, (mset_ne (Ne.symm h2)).trans a2, a3⟩
theorem TapeIn.del {m : Mu} {c s p : Addr} (h : TapeIn m c s) (h1 : p ≠ c) (h2 : p ≠ s) : TapeIn (mdel m p) c s := by
  obtain ⟨ne, cells, st, a1, a2, a3⟩ := h
  exact ⟨ne, cells, st, (mdel_ne (Ne.symm h1)).trans a1, (mdel_ne (Ne.symm h2)).trans a2, a3⟩
/-- only the tape and what stands at L may differ -/
structure Fr (c s : Addr) (L : List Addr) (m0 m : Mu) : Prop where
  tp : TapeIn m c s
  ap : ∀ p ∈ L, p ≠ c ∧ p ≠ s
  eq : ∀ a, a ≠ c → a ≠ s → a ∉ L → m a = m0 a
section
variable {c s p : Addr} {L : List Addr} {m0 m m' : Mu} {o : MO}
theorem Fr.of (h : Tp c s m0 m) : Fr c s [] m0 m := ⟨h.tp, fun _ z => (by cases z), fun a h1 h2 _ => h.eq a h1 h2⟩
theorem Fr.end_ (h : Fr c s [] m0 m) : Tp c s m0 m := ⟨h.tp, fun a h1 h2 => h.eq a h1 h2 (by simp)⟩
theorem Fr.go (h : Fr c s L m0 m) (t : Tp c s m m') : Fr c s L m0 m' := ⟨t.tp, h.ap, fun a h1 h2 h3 => (t.eq a h1 h2).trans (h.eq a h1 h2 h3)⟩
theorem Fr.add (h : Fr c s L m0 m) (hp : m p = none) : Fr c s (p :: L) m0 (mset m p o) := by
  obtain ⟨h1, h2⟩ := h.tp.apart hp
  refine ⟨h.tp.set h1 h2, fun q hq => ?_, fun a ha hb hl => ?_⟩
  · rcases List.mem_cons.mp hq with rfl | hq
    · exact ⟨h1, h2⟩
    · exact h.ap q hq
  · rw [mset_ne (fun z => hl (by rw [z]; exact List.mem_cons_self))]
    exact h.eq a ha hb fun z => hl (List.mem_cons_of_mem _ z)
theorem Fr.set (h : Fr c s L m0 m) (hp : p ∈ L) : Fr c s L m0 (mset m p o) := by
  obtain ⟨h1, h2⟩ := h.ap p hp
  refine ⟨h.tp.set h1 h2, h.ap, fun a ha hb hl => ?_⟩
  rw [mset_ne (fun z => hl (by rw [z]; exact hp))]
  exact h.eq a ha hb hl
theorem Fr.del (h : Fr c s (p :: L) m0 m) (hp : m0 p = none) : Fr c s L m0 (mdel m p) := by
  obtain ⟨h1, h2⟩ := h.ap p List.mem_cons_self
  refine ⟨h.tp.del h1 h2, fun q hq => h.ap q (List.mem_cons_of_mem _ hq), fun a ha hb hl => ?_⟩
  by_cases z : a = p
  · rw [z, mdel_same, hp]
  · rw [mdel_ne z]
    exact h.eq a ha hb fun y => (List.mem_cons.mp y).elim z hl
theorem Fr.new (h : Fr c s L m0 m) (hp : m p = none) (hl : p ∉ L) : m0 p = none := by
  obtain ⟨h1, h2⟩ := h.tp.apart hp
  rw [← h.eq p h1 h2 hl]
  exact hp
theorem Tp.own {q : Addr} (t : Tp c s m m') (h : m q = some o) (hq : q ≠ c ∧ q ≠ s) : m' q = some o := (t.eq q hq.1 hq.2).trans h
end
end AL
set_option maxHeartbeats 2000000
namespace AL
open PySem L2 Evl
variable {K : PySem.W.Frag}
/-! ### draws -/
def sp_law_pick : ASp := fun ds m P _ => ∃ (c s : Addr) (n : Int), ds = [tapeD c s, .int n] ∧ TapeIn m c s ∧ 0 < n ∧ n < 1073741824 ∧ ∀ (r : Int) m', 0 ≤ r → r < n → Tp c s m m' → P (.int r) m'
theorem fmod_in {a b : Int} (h : 0 < b) : 0 ≤ a.fmod b ∧ a.fmod b < b := ⟨Int.fmod_nonneg_of_pos a h, Int.fmod_lt_of_pos a h⟩
theorem lens_pos {cells : List Int} : (0 < ((cells.map D.int).length : Int)) ↔ cells ≠ [] := by
  cases cells with
  | nil => simp
  | cons a l => simp
theorem ends_in {α : Type} {l : List α} (h : l ≠ []) : ∃ a b, l = a ++ [b] := ⟨l.dropLast, l.getLast h, (List.dropLast_concat_getLast h).symm⟩
theorem set_last {α : Type} (a : List α) (b c : α) : (a ++ [b]).set ((a ++ [b]).length - 1) c = a ++ [c] := by
  simp
theorem rd_law_pick : ∀ ds m Q W, sp_law_pick ds m Q W → b_law_pick W { nx := fun _ m' => fzE K Q .non m', rt := fzE K Q } (ds.map some ++ List.replicate (N_law_pick.length - ds.length) none) m := by
  rintro ds m Q W ⟨c, s, n, rfl, tp, n0, n1, hq⟩
  change b_law_pick W _ [some (tapeD c s), some (.int n), none, none] m
  unfold b_law_pick tapeD
  obtain ⟨ne, cells0, st0, hc0, hs0, hcell0, s0, s1, hl0⟩ := tp
  simp only [aSeq, aSet, aC, aVar, aOp, aTest, aTru, aAnd, aOr, aNot, aAndV, aOrV, aNotV, aIfE, aNil, aCons, aTup, aLst, aLstB, aUn, aCa, aSl, aNo, aPart, aM, aML, aRet, aRetN, aIf, aDo, aNext, aCont, aBrk, aAsg, aCall, aCallX, aMeth, aFld, aSetFld, aFldAug, aAug, aRaise, aMake, aYes, kName, kCons, kNil, kSub, nth, put, wipeD, asT_b, fAdd_i, fAdd_s, fAdd_t, fAdd_l, fSub_i, fLt_i, fLe_i, fGt_i, fGe_i, fMul_i, fMod_i, fFdiv_i, fPow_i, fNeg_i, fEq_i, fEq_s, fEq_b, fNe_i, fNe_s, fNe_b, fIn_s, fNi_s, fIx_t0, fIx_t1, fIx_t2, fIx_l0, fIx_l1, fSl_s, fSl_t, fSl_l, fLen_t, fLen_l, fInt_i, fAbs_i, fMax_i, fMin_i, fTuple_t, fTuple_l, fList_t, fList_l, fRepS_s, seqOf_t, seqOf_l, truD_b, truD_t, truD_l, kTup_t, fIsN_n, fIsi_non_int, fIsi_non_bool, fIsi_non_str, fIsi_non_tuple, fIsi_non_list, fIsi_bl_int, fIsi_bl_bool, fIsi_bl_str, fIsi_bl_tuple, fIsi_bl_list, fIsi_int_int, fIsi_int_bool, fIsi_int_str, fIsi_int_tuple, fIsi_int_list, fIsi_str_int, fIsi_str_bool, fIsi_str_str, fIsi_str_tuple, fIsi_str_list, fIsi_tup_int, fIsi_tup_bool, fIsi_tup_str, fIsi_tup_tuple, fIsi_tup_list, fIsi_lst_int, fIsi_lst_bool, fIsi_lst_str, fIsi_lst_tuple, fIsi_lst_list, isN, fIx_sy0, fIx_sy1, ite_tt, ite_ff]
  refine ⟨fun k g m' => ∃ cells, g = [some (.lst [.box c, .box s]), some (.int n), some (.box c), none] ∧ m' = mset m c (.lst (cells.map .int)) ∧ k = cells.length ∧ cells.length ≤ 63 ∧ ∀ x ∈ cells, 0 ≤ x, ⟨cells0.length, cells0, rfl, (mset_self hc0).symm, rfl, hl0, hcell0⟩, ?_⟩
  rintro k g m' ⟨cells, rfl, rfl, rfl, hl, hcell⟩
  have hm : mset m c (.lst (cells.map .int)) c = some (.lst (cells.map .int)) := mset_same
  have hms : mset m c (.lst (cells.map .int)) s = some (.lst [.int st0]) := by
    rw [mset_ne (Ne.symm ne)]
    exact hs0
  simp only [aSeq, aSet, aC, aVar, aOp, aTest, aTru, aAnd, aOr, aNot, aAndV, aOrV, aNotV, aIfE, aNil, aCons, aTup, aLst, aLstB, aUn, aCa, aSl, aNo, aPart, aM, aML, aRet, aRetN, aIf, aDo, aNext, aCont, aBrk, aAsg, aCall, aCallX, aMeth, aFld, aSetFld, aFldAug, aAug, aRaise, aMake, aYes, kName, kCons, kNil, kSub, nth, put, wipeD, asT_b, fAdd_i, fAdd_s, fAdd_t, fAdd_l, fSub_i, fLt_i, fLe_i, fGt_i, fGe_i, fMul_i, fMod_i, fFdiv_i, fPow_i, fNeg_i, fEq_i, fEq_s, fEq_b, fNe_i, fNe_s, fNe_b, fIn_s, fNi_s, fIx_t0, fIx_t1, fIx_t2, fIx_l0, fIx_l1, fSl_s, fSl_t, fSl_l, fLen_t, fLen_l, fInt_i, fAbs_i, fMax_i, fMin_i, fTuple_t, fTuple_l, fList_t, fList_l, fRepS_s, seqOf_t, seqOf_l, truD_b, truD_t, truD_l, kTup_t, fIsN_n, fIsi_non_int, fIsi_non_bool, fIsi_non_str, fIsi_non_tuple, fIsi_non_list, fIsi_bl_int, fIsi_bl_bool, fIsi_bl_str, fIsi_bl_tuple, fIsi_bl_list, fIsi_int_int, fIsi_int_bool, fIsi_int_str, fIsi_int_tuple, fIsi_int_list, fIsi_str_int, fIsi_str_bool, fIsi_str_str, fIsi_str_tuple, fIsi_str_list, fIsi_tup_int, fIsi_tup_bool, fIsi_tup_str, fIsi_tup_tuple, fIsi_tup_list, fIsi_lst_int, fIsi_lst_bool, fIsi_lst_str, fIsi_lst_tuple, fIsi_lst_list, isN, fIx_sy0, fIx_sy1, ite_tt, ite_ff, fLen_b hm]
  by_cases hne : cells = []
  · subst hne
    rw [if_neg (by simp)]
    refine cut_plain ?_
    simp only [aSeq, aSet, aC, aVar, aOp, aTest, aTru, aAnd, aOr, aNot, aAndV, aOrV, aNotV, aIfE, aNil, aCons, aTup, aLst, aLstB, aUn, aCa, aSl, aNo, aPart, aM, aML, aRet, aRetN, aIf, aDo, aNext, aCont, aBrk, aAsg, aCall, aCallX, aMeth, aFld, aSetFld, aFldAug, aAug, aRaise, aMake, aYes, kName, kCons, kNil, kSub, nth, put, wipeD, asT_b, fAdd_i, fAdd_s, fAdd_t, fAdd_l, fSub_i, fLt_i, fLe_i, fGt_i, fGe_i, fMul_i, fMod_i, fFdiv_i, fPow_i, fNeg_i, fEq_i, fEq_s, fEq_b, fNe_i, fNe_s, fNe_b, fIn_s, fNi_s, fIx_t0, fIx_t1, fIx_t2, fIx_l0, fIx_l1, fSl_s, fSl_t, fSl_l, fLen_t, fLen_l, fInt_i, fAbs_i, fMax_i, fMin_i, fTuple_t, fTuple_l, fList_t, fList_l, fRepS_s, seqOf_t, seqOf_l, truD_b, truD_t, truD_l, kTup_t, fIsN_n, fIsi_non_int, fIsi_non_bool, fIsi_non_str, fIsi_non_tuple, fIsi_non_list, fIsi_bl_int, fIsi_bl_bool, fIsi_bl_str, fIsi_bl_tuple, fIsi_bl_list, fIsi_int_int, fIsi_int_bool, fIsi_int_str, fIsi_int_tuple, fIsi_int_list, fIsi_str_int, fIsi_str_bool, fIsi_str_str, fIsi_str_tuple, fIsi_str_list, fIsi_tup_int, fIsi_tup_bool, fIsi_tup_str, fIsi_tup_tuple, fIsi_tup_list, fIsi_lst_int, fIsi_lst_bool, fIsi_lst_str, fIsi_lst_tuple, fIsi_lst_list, isN, fIx_sy0, fIx_sy1, ite_tt, ite_ff, fLen_b hm]
    rw [if_neg (by simp)]
    have key : ∀ x : Int, 0 ≤ x → x < 2147483647 → Tp c s m (mset (mset m c (.lst (([] : List Int).map .int))) s (.lst [.int x])) := fun x h1 h2 => by
      refine ⟨⟨ne, [], x, ?_, mset_same, fun _ h => (by cases h), h1, h2, by simp⟩, fun a ha hb => ?_⟩
      · rw [mset_ne ne, mset_same]
      · rw [mset_ne hb, mset_ne ha]
    have hq' := fun r x h1 h2 h3 h4 => fzE.of (K := K) (hq r _ h1 h2 (key x h3 h4))
    obtain ⟨f1, f2⟩ := fmod_in (a := st0 * 48271 + 13) (b := 2147483647) (by decide)
    obtain ⟨g1, g2⟩ := fmod_in (a := ((st0 * 48271 + 13).fmod 2147483647).fdiv 32) (b := n) n0
    have hi : atI [D.int st0] 0 = some (.int st0) := rfl
    have hi2 : atI ([D.int st0].set 0 (.int ((st0 * 48271 + 13).fmod 2147483647))) 0 = some (.int ((st0 * 48271 + 13).fmod 2147483647)) := rfl
    have hk : ixN [D.int st0].length 0 = some 0 := rfl
    simp only [aSeq, aSet, aC, aVar, aOp, aTest, aTru, aAnd, aOr, aNot, aAndV, aOrV, aNotV, aIfE, aNil, aCons, aTup, aLst, aLstB, aUn, aCa, aSl, aNo, aPart, aM, aML, aRet, aRetN, aIf, aDo, aNext, aCont, aBrk, aAsg, aCall, aCallX, aMeth, aFld, aSetFld, aFldAug, aAug, aRaise, aMake, aYes, kName, kCons, kNil, kSub, nth, put, wipeD, asT_b, fAdd_i, fAdd_s, fAdd_t, fAdd_l, fSub_i, fLt_i, fLe_i, fGt_i, fGe_i, fMul_i, fMod_i, fFdiv_i, fPow_i, fNeg_i, fEq_i, fEq_s, fEq_b, fNe_i, fNe_s, fNe_b, fIn_s, fNi_s, fIx_t0, fIx_t1, fIx_t2, fIx_l0, fIx_l1, fSl_s, fSl_t, fSl_l, fLen_t, fLen_l, fInt_i, fAbs_i, fMax_i, fMin_i, fTuple_t, fTuple_l, fList_t, fList_l, fRepS_s, seqOf_t, seqOf_l, truD_b, truD_t, truD_l, kTup_t, fIsN_n, fIsi_non_int, fIsi_non_bool, fIsi_non_str, fIsi_non_tuple, fIsi_non_list, fIsi_bl_int, fIsi_bl_bool, fIsi_bl_str, fIsi_bl_tuple, fIsi_bl_list, fIsi_int_int, fIsi_int_bool, fIsi_int_str, fIsi_int_tuple, fIsi_int_list, fIsi_str_int, fIsi_str_bool, fIsi_str_str, fIsi_str_tuple, fIsi_str_list, fIsi_tup_int, fIsi_tup_bool, fIsi_tup_str, fIsi_tup_tuple, fIsi_tup_list, fIsi_lst_int, fIsi_lst_bool, fIsi_lst_str, fIsi_lst_tuple, fIsi_lst_list, isN, fIx_sy0, fIx_sy1, ite_tt, ite_ff, fIx_b hms hi, fSetIx_b hms hk, fIx_b mset_same hi2]
    refine ⟨.inl ⟨by omega, by omega⟩, by decide, ⟨by decide, by decide⟩, by omega, ?_⟩
    exact hq' _ _ g1 g2 f1 f2
  · obtain ⟨ini, x, rfl⟩ := ends_in hne
    have hx : 0 ≤ x := hcell x (by simp)
    have hm' : mset m c (.lst ((ini ++ [x]).map .int)) c = some (.lst (ini.map .int ++ [.int x])) := by
      rw [mset_same, List.map_append] <;> rfl
    have hcelli : ∀ y ∈ ini, 0 ≤ y := fun y hy => hcell y (by simp [hy])
    have hli : ini.length ≤ 62 := by
      rw [List.length_append, List.length_singleton] at hl
      omega
    rw [if_pos (decide_eq_true (lens_pos.mpr hne))]
    simp only [aSeq, aSet, aC, aVar, aOp, aTest, aTru, aAnd, aOr, aNot, aAndV, aOrV, aNotV, aIfE, aNil, aCons, aTup, aLst, aLstB, aUn, aCa, aSl, aNo, aPart, aM, aML, aRet, aRetN, aIf, aDo, aNext, aCont, aBrk, aAsg, aCall, aCallX, aMeth, aFld, aSetFld, aFldAug, aAug, aRaise, aMake, aYes, kName, kCons, kNil, kSub, nth, put, wipeD, asT_b, fAdd_i, fAdd_s, fAdd_t, fAdd_l, fSub_i, fLt_i, fLe_i, fGt_i, fGe_i, fMul_i, fMod_i, fFdiv_i, fPow_i, fNeg_i, fEq_i, fEq_s, fEq_b, fNe_i, fNe_s, fNe_b, fIn_s, fNi_s, fIx_t0, fIx_t1, fIx_t2, fIx_l0, fIx_l1, fSl_s, fSl_t, fSl_l, fLen_t, fLen_l, fInt_i, fAbs_i, fMax_i, fMin_i, fTuple_t, fTuple_l, fList_t, fList_l, fRepS_s, seqOf_t, seqOf_l, truD_b, truD_t, truD_l, kTup_t, fIsN_n, fIsi_non_int, fIsi_non_bool, fIsi_non_str, fIsi_non_tuple, fIsi_non_list, fIsi_bl_int, fIsi_bl_bool, fIsi_bl_str, fIsi_bl_tuple, fIsi_bl_list, fIsi_int_int, fIsi_int_bool, fIsi_int_str, fIsi_int_tuple, fIsi_int_list, fIsi_str_int, fIsi_str_bool, fIsi_str_str, fIsi_str_tuple, fIsi_str_list, fIsi_tup_int, fIsi_tup_bool, fIsi_tup_str, fIsi_tup_tuple, fIsi_tup_list, fIsi_lst_int, fIsi_lst_bool, fIsi_lst_str, fIsi_lst_tuple, fIsi_lst_list, isN, fIx_sy0, fIx_sy1, ite_tt, ite_ff, fIx_b hm' atI_last]
    have more : ∀ y : Int, 0 ≤ y → Tp c s m (mset (mset m c (.lst ((ini ++ [x]).map .int))) c (.lst ((ini ++ [y]).map .int))) := fun y hy => by
      refine ⟨⟨ne, ini ++ [y], st0, mset_same, ?_, fun z hz => ?_, s0, s1, by simp; omega⟩, fun a ha hb => ?_⟩
      · rw [mset_ne (Ne.symm ne), mset_ne (Ne.symm ne)]
        exact hs0
      · rcases List.mem_append.mp hz with h | h
        · exact hcelli z h
        · rw [List.mem_singleton.mp h]
          exact hy
      · rw [mset_ne ha, mset_ne ha]
    by_cases h0 : x = 0
    · rw [if_pos (decide_eq_true h0)]
      simp only [aSeq, aSet, aC, aVar, aOp, aTest, aTru, aAnd, aOr, aNot, aAndV, aOrV, aNotV, aIfE, aNil, aCons, aTup, aLst, aLstB, aUn, aCa, aSl, aNo, aPart, aM, aML, aRet, aRetN, aIf, aDo, aNext, aCont, aBrk, aAsg, aCall, aCallX, aMeth, aFld, aSetFld, aFldAug, aAug, aRaise, aMake, aYes, kName, kCons, kNil, kSub, nth, put, wipeD, asT_b, fAdd_i, fAdd_s, fAdd_t, fAdd_l, fSub_i, fLt_i, fLe_i, fGt_i, fGe_i, fMul_i, fMod_i, fFdiv_i, fPow_i, fNeg_i, fEq_i, fEq_s, fEq_b, fNe_i, fNe_s, fNe_b, fIn_s, fNi_s, fIx_t0, fIx_t1, fIx_t2, fIx_l0, fIx_l1, fSl_s, fSl_t, fSl_l, fLen_t, fLen_l, fInt_i, fAbs_i, fMax_i, fMin_i, fTuple_t, fTuple_l, fList_t, fList_l, fRepS_s, seqOf_t, seqOf_l, truD_b, truD_t, truD_l, kTup_t, fIsN_n, fIsi_non_int, fIsi_non_bool, fIsi_non_str, fIsi_non_tuple, fIsi_non_list, fIsi_bl_int, fIsi_bl_bool, fIsi_bl_str, fIsi_bl_tuple, fIsi_bl_list, fIsi_int_int, fIsi_int_bool, fIsi_int_str, fIsi_int_tuple, fIsi_int_list, fIsi_str_int, fIsi_str_bool, fIsi_str_str, fIsi_str_tuple, fIsi_str_list, fIsi_tup_int, fIsi_tup_bool, fIsi_tup_str, fIsi_tup_tuple, fIsi_tup_list, fIsi_lst_int, fIsi_lst_bool, fIsi_lst_str, fIsi_lst_tuple, fIsi_lst_list, isN, fIx_sy0, fIx_sy1, ite_tt, ite_ff, isL_b hm', fPop_b hm' rfl, true_and]
      exact ⟨ini.length, by simp, ini, mset_mset, rfl, by omega, hcelli⟩
    · rw [if_neg (by simp [h0])]
      refine cut_plain ?_
      simp only [aSeq, aSet, aC, aVar, aOp, aTest, aTru, aAnd, aOr, aNot, aAndV, aOrV, aNotV, aIfE, aNil, aCons, aTup, aLst, aLstB, aUn, aCa, aSl, aNo, aPart, aM, aML, aRet, aRetN, aIf, aDo, aNext, aCont, aBrk, aAsg, aCall, aCallX, aMeth, aFld, aSetFld, aFldAug, aAug, aRaise, aMake, aYes, kName, kCons, kNil, kSub, nth, put, wipeD, asT_b, fAdd_i, fAdd_s, fAdd_t, fAdd_l, fSub_i, fLt_i, fLe_i, fGt_i, fGe_i, fMul_i, fMod_i, fFdiv_i, fPow_i, fNeg_i, fEq_i, fEq_s, fEq_b, fNe_i, fNe_s, fNe_b, fIn_s, fNi_s, fIx_t0, fIx_t1, fIx_t2, fIx_l0, fIx_l1, fSl_s, fSl_t, fSl_l, fLen_t, fLen_l, fInt_i, fAbs_i, fMax_i, fMin_i, fTuple_t, fTuple_l, fList_t, fList_l, fRepS_s, seqOf_t, seqOf_l, truD_b, truD_t, truD_l, kTup_t, fIsN_n, fIsi_non_int, fIsi_non_bool, fIsi_non_str, fIsi_non_tuple, fIsi_non_list, fIsi_bl_int, fIsi_bl_bool, fIsi_bl_str, fIsi_bl_tuple, fIsi_bl_list, fIsi_int_int, fIsi_int_bool, fIsi_int_str, fIsi_int_tuple, fIsi_int_list, fIsi_str_int, fIsi_str_bool, fIsi_str_str, fIsi_str_tuple, fIsi_str_list, fIsi_tup_int, fIsi_tup_bool, fIsi_tup_str, fIsi_tup_tuple, fIsi_tup_list, fIsi_lst_int, fIsi_lst_bool, fIsi_lst_str, fIsi_lst_tuple, fIsi_lst_list, isN, fIx_sy0, fIx_sy1, ite_tt, ite_ff, fLen_b hm]
      rw [if_pos (decide_eq_true (lens_pos.mpr hne))]
      simp only [aSeq, aSet, aC, aVar, aOp, aTest, aTru, aAnd, aOr, aNot, aAndV, aOrV, aNotV, aIfE, aNil, aCons, aTup, aLst, aLstB, aUn, aCa, aSl, aNo, aPart, aM, aML, aRet, aRetN, aIf, aDo, aNext, aCont, aBrk, aAsg, aCall, aCallX, aMeth, aFld, aSetFld, aFldAug, aAug, aRaise, aMake, aYes, kName, kCons, kNil, kSub, nth, put, wipeD, asT_b, fAdd_i, fAdd_s, fAdd_t, fAdd_l, fSub_i, fLt_i, fLe_i, fGt_i, fGe_i, fMul_i, fMod_i, fFdiv_i, fPow_i, fNeg_i, fEq_i, fEq_s, fEq_b, fNe_i, fNe_s, fNe_b, fIn_s, fNi_s, fIx_t0, fIx_t1, fIx_t2, fIx_l0, fIx_l1, fSl_s, fSl_t, fSl_l, fLen_t, fLen_l, fInt_i, fAbs_i, fMax_i, fMin_i, fTuple_t, fTuple_l, fList_t, fList_l, fRepS_s, seqOf_t, seqOf_l, truD_b, truD_t, truD_l, kTup_t, fIsN_n, fIsi_non_int, fIsi_non_bool, fIsi_non_str, fIsi_non_tuple, fIsi_non_list, fIsi_bl_int, fIsi_bl_bool, fIsi_bl_str, fIsi_bl_tuple, fIsi_bl_list, fIsi_int_int, fIsi_int_bool, fIsi_int_str, fIsi_int_tuple, fIsi_int_list, fIsi_str_int, fIsi_str_bool, fIsi_str_str, fIsi_str_tuple, fIsi_str_list, fIsi_tup_int, fIsi_tup_bool, fIsi_tup_str, fIsi_tup_tuple, fIsi_tup_list, fIsi_lst_int, fIsi_lst_bool, fIsi_lst_str, fIsi_lst_tuple, fIsi_lst_list, isN, fIx_sy0, fIx_sy1, ite_tt, ite_ff, fIx_b hm' atI_last]
      refine ⟨by omega, ⟨by omega, by omega⟩, ?_⟩
      rw [fSetIx_b hm' (k := (ini.map D.int ++ [D.int x]).length - 1) (ixN_last (by simp)), set_last]
      obtain ⟨f1, f2⟩ := fmod_in (a := x) (b := n) n0
      have := more (x.fdiv n) (Int.fdiv_nonneg hx (by omega))
      have e : (ini ++ [x.fdiv n]).map D.int = ini.map D.int ++ [D.int (x.fdiv n)] := by simp
      rw [e] at this
      exact fzE.of (hq _ _ f1 f2 this)
/-! ### the tape made -/
def sp_law_tape : ASp := fun ds m P _ => ∃ (ns : List Int), ds = [.scr ns] ∧ ns.length ≤ 63 ∧ ∀ c s m', m c = none → m s = none → TapeIn m' c s → (∀ a, a ≠ c → a ≠ s → m' a = m a) → P (tapeD c s) m'
theorem rd_law_tape : ∀ ds m Q W, sp_law_tape ds m Q W → b_law_tape W { nx := fun _ m' => fzE K Q .non m', rt := fzE K Q } (ds.map some ++ List.replicate (N_law_tape.length - ds.length) none) m := by
  rintro ds m Q W ⟨ns, rfl, hl, hq⟩
  change b_law_tape W _ [some (.scr ns), none, none, none] m
  unfold b_law_tape
  simp only [aSeq, aSet, aC, aVar, aOp, aTest, aTru, aAnd, aOr, aNot, aAndV, aOrV, aNotV, aIfE, aNil, aCons, aTup, aLst, aLstB, aUn, aCa, aSl, aNo, aPart, aM, aML, aRet, aRetN, aIf, aDo, aNext, aCont, aBrk, aAsg, aCall, aCallX, aMeth, aFld, aSetFld, aFldAug, aAug, aRaise, aMake, aYes, kName, kCons, kNil, kSub, nth, put, wipeD, asT_b, fAdd_i, fAdd_s, fAdd_t, fAdd_l, fSub_i, fLt_i, fLe_i, fGt_i, fGe_i, fMul_i, fMod_i, fFdiv_i, fPow_i, fNeg_i, fEq_i, fEq_s, fEq_b, fNe_i, fNe_s, fNe_b, fIn_s, fNi_s, fIx_t0, fIx_t1, fIx_t2, fIx_l0, fIx_l1, fSl_s, fSl_t, fSl_l, fLen_t, fLen_l, fInt_i, fAbs_i, fMax_i, fMin_i, fTuple_t, fTuple_l, fList_t, fList_l, fRepS_s, seqOf_t, seqOf_l, truD_b, truD_t, truD_l, kTup_t, fIsN_n, fIsi_non_int, fIsi_non_bool, fIsi_non_str, fIsi_non_tuple, fIsi_non_list, fIsi_bl_int, fIsi_bl_bool, fIsi_bl_str, fIsi_bl_tuple, fIsi_bl_list, fIsi_int_int, fIsi_int_bool, fIsi_int_str, fIsi_int_tuple, fIsi_int_list, fIsi_str_int, fIsi_str_bool, fIsi_str_str, fIsi_str_tuple, fIsi_str_list, fIsi_tup_int, fIsi_tup_bool, fIsi_tup_str, fIsi_tup_tuple, fIsi_tup_list, fIsi_lst_int, fIsi_lst_bool, fIsi_lst_str, fIsi_lst_tuple, fIsi_lst_list, isN, fIx_sy0, fIx_sy1, ite_tt, ite_ff, aFor]
  refine ⟨ns.map .int, rfl, fun i g m' => ∃ st x, g = [some (.scr ns), some (.int st), x, none] ∧ m' = m ∧ 0 ≤ st ∧ st < 2147483647, ⟨_, _, rfl, rfl, by decide, by decide⟩, fun _ _ _ _ _ => rfl, ?_, ?_⟩
  · rintro i x g m' hx ⟨st, y, rfl, rfl, h1, h2⟩
    obtain ⟨v, hv, rfl⟩ : ∃ v, ns[i]? = some v ∧ x = .int v := by
      rw [List.getElem?_map] at hx
      cases e : ns[i]? with
      | none =>
        rw [e] at hx
        cases hx
      | some v =>
        rw [e] at hx
        cases hx
        exact ⟨v, rfl, rfl⟩
    simp only [aSeq, aSet, aC, aVar, aOp, aTest, aTru, aAnd, aOr, aNot, aAndV, aOrV, aNotV, aIfE, aNil, aCons, aTup, aLst, aLstB, aUn, aCa, aSl, aNo, aPart, aM, aML, aRet, aRetN, aIf, aDo, aNext, aCont, aBrk, aAsg, aCall, aCallX, aMeth, aFld, aSetFld, aFldAug, aAug, aRaise, aMake, aYes, kName, kCons, kNil, kSub, nth, put, wipeD, asT_b, fAdd_i, fAdd_s, fAdd_t, fAdd_l, fSub_i, fLt_i, fLe_i, fGt_i, fGe_i, fMul_i, fMod_i, fFdiv_i, fPow_i, fNeg_i, fEq_i, fEq_s, fEq_b, fNe_i, fNe_s, fNe_b, fIn_s, fNi_s, fIx_t0, fIx_t1, fIx_t2, fIx_l0, fIx_l1, fSl_s, fSl_t, fSl_l, fLen_t, fLen_l, fInt_i, fAbs_i, fMax_i, fMin_i, fTuple_t, fTuple_l, fList_t, fList_l, fRepS_s, seqOf_t, seqOf_l, truD_b, truD_t, truD_l, kTup_t, fIsN_n, fIsi_non_int, fIsi_non_bool, fIsi_non_str, fIsi_non_tuple, fIsi_non_list, fIsi_bl_int, fIsi_bl_bool, fIsi_bl_str, fIsi_bl_tuple, fIsi_bl_list, fIsi_int_int, fIsi_int_bool, fIsi_int_str, fIsi_int_tuple, fIsi_int_list, fIsi_str_int, fIsi_str_bool, fIsi_str_str, fIsi_str_tuple, fIsi_str_list, fIsi_tup_int, fIsi_tup_bool, fIsi_tup_str, fIsi_tup_tuple, fIsi_tup_list, fIsi_lst_int, fIsi_lst_bool, fIsi_lst_str, fIsi_lst_tuple, fIsi_lst_list, isN, fIx_sy0, fIx_sy1, ite_tt, ite_ff]
    obtain ⟨f1, f2⟩ := fmod_in (a := st * 61871 + v + 37) (b := 2147483647) (by decide)
    exact ⟨.inl ⟨by omega, by omega⟩, by decide, _, _, rfl, by trivial, f1, f2⟩
  · rintro g m' ⟨st, y, rfl, rfl, h1, h2⟩
    simp only [aSeq, aSet, aC, aVar, aOp, aTest, aTru, aAnd, aOr, aNot, aAndV, aOrV, aNotV, aIfE, aNil, aCons, aTup, aLst, aLstB, aUn, aCa, aSl, aNo, aPart, aM, aML, aRet, aRetN, aIf, aDo, aNext, aCont, aBrk, aAsg, aCall, aCallX, aMeth, aFld, aSetFld, aFldAug, aAug, aRaise, aMake, aYes, kName, kCons, kNil, kSub, nth, put, wipeD, asT_b, fAdd_i, fAdd_s, fAdd_t, fAdd_l, fSub_i, fLt_i, fLe_i, fGt_i, fGe_i, fMul_i, fMod_i, fFdiv_i, fPow_i, fNeg_i, fEq_i, fEq_s, fEq_b, fNe_i, fNe_s, fNe_b, fIn_s, fNi_s, fIx_t0, fIx_t1, fIx_t2, fIx_l0, fIx_l1, fSl_s, fSl_t, fSl_l, fLen_t, fLen_l, fInt_i, fAbs_i, fMax_i, fMin_i, fTuple_t, fTuple_l, fList_t, fList_l, fRepS_s, seqOf_t, seqOf_l, truD_b, truD_t, truD_l, kTup_t, fIsN_n, fIsi_non_int, fIsi_non_bool, fIsi_non_str, fIsi_non_tuple, fIsi_non_list, fIsi_bl_int, fIsi_bl_bool, fIsi_bl_str, fIsi_bl_tuple, fIsi_bl_list, fIsi_int_int, fIsi_int_bool, fIsi_int_str, fIsi_int_tuple, fIsi_int_list, fIsi_str_int, fIsi_str_bool, fIsi_str_str, fIsi_str_tuple, fIsi_str_list, fIsi_tup_int, fIsi_tup_bool, fIsi_tup_str, fIsi_tup_tuple, fIsi_tup_list, fIsi_lst_int, fIsi_lst_bool, fIsi_lst_str, fIsi_lst_tuple, fIsi_lst_list, isN, fIx_sy0, fIx_sy1, ite_tt, ite_ff, aLc]
    refine ⟨ns.map .int, rfl, fun p hp => lc_pure (fun i => (ns[i]?).map fun y => .int (if y < 0 then -y else y)) (by simp; omega) (fun _ => rfl) (fun i acc hi h => ?_) ?_⟩
    · have hi : i < ns.length := by simpa using hi
      have e : (ns.map D.int).getD i .non = .int ns[i] := by simp [hi]
      simp only [e]
      simp only [aSeq, aSet, aC, aVar, aOp, aTest, aTru, aAnd, aOr, aNot, aAndV, aOrV, aNotV, aIfE, aNil, aCons, aTup, aLst, aLstB, aUn, aCa, aSl, aNo, aPart, aM, aML, aRet, aRetN, aIf, aDo, aNext, aCont, aBrk, aAsg, aCall, aCallX, aMeth, aFld, aSetFld, aFldAug, aAug, aRaise, aMake, aYes, kName, kCons, kNil, kSub, nth, put, wipeD, asT_b, fAdd_i, fAdd_s, fAdd_t, fAdd_l, fSub_i, fLt_i, fLe_i, fGt_i, fGe_i, fMul_i, fMod_i, fFdiv_i, fPow_i, fNeg_i, fEq_i, fEq_s, fEq_b, fNe_i, fNe_s, fNe_b, fIn_s, fNi_s, fIx_t0, fIx_t1, fIx_t2, fIx_l0, fIx_l1, fSl_s, fSl_t, fSl_l, fLen_t, fLen_l, fInt_i, fAbs_i, fMax_i, fMin_i, fTuple_t, fTuple_l, fList_t, fList_l, fRepS_s, seqOf_t, seqOf_l, truD_b, truD_t, truD_l, kTup_t, fIsN_n, fIsi_non_int, fIsi_non_bool, fIsi_non_str, fIsi_non_tuple, fIsi_non_list, fIsi_bl_int, fIsi_bl_bool, fIsi_bl_str, fIsi_bl_tuple, fIsi_bl_list, fIsi_int_int, fIsi_int_bool, fIsi_int_str, fIsi_int_tuple, fIsi_int_list, fIsi_str_int, fIsi_str_bool, fIsi_str_str, fIsi_str_tuple, fIsi_str_list, fIsi_tup_int, fIsi_tup_bool, fIsi_tup_str, fIsi_tup_tuple, fIsi_tup_list, fIsi_lst_int, fIsi_lst_bool, fIsi_lst_str, fIsi_lst_tuple, fIsi_lst_list, isN, fIx_sy0, fIx_sy1, ite_tt, ite_ff]
      exact pvF_yes h (by simp [hi])
    · have e : (List.range (ns.map D.int).length).filterMap (fun i => (ns[i]?).map fun y => .int (if y < 0 then -y else y)) = (ns.map fun y => if y < 0 then -y else y).map D.int := by
        rw [List.length_map, List.map_map]
        exact fm_map fun i a ha => by rw [ha] <;> rfl
      rw [e, if_pos (by trivial), mdel_mset hp]
      simp only [aRevB, aVar, nth, lstOf]
      intro c hc
      refine ⟨by simp, fun s hs => ?_⟩
      have ne : s ≠ c := fun z => by
        rw [z, mset_same] at hs
        cases hs
      rw [mset_ne ne] at hs
      refine ⟨by simp, fzE.of (hq c s _ hc hs ⟨ne.symm, (ns.map fun y => if y < 0 then -y else y).reverse, st, ?_, mset_same, fun x hx => ?_, h1, h2, by simp; omega⟩ fun a ha hb => ?_)⟩
      · rw [mset_ne ne.symm, mset_same, List.map_reverse]
      · simp only [List.mem_reverse, List.mem_map] at hx
        obtain ⟨y, _, rfl⟩ := hx
        split <;> omega
      · rw [mset_ne hb, mset_ne ha]
/-! ### the symbols of a script -/
def low (c : Nat) : Prop := 97 ≤ c ∧ c ≤ 122
def wsg (c : Nat) : Prop := low c ∨ (48 ≤ c ∧ c ≤ 57) ∨ c = 45
instance : DecidablePred low := fun c => by unfold low; infer_instance
instance : DecidablePred wsg := fun c => by unfold wsg; infer_instance
def okWord (w : List Nat) : Prop := w = [46] ∨ ∃ c r, w = c :: r ∧ low c ∧ (∀ x ∈ r, wsg x) ∧ r.length ≤ 15
def goodSy (s : Sy) : Prop := okWord s.w ∧ s.n ≤ 4 ∧ (s.w = [46] → s.n = 0)
structure MarksOk (ms : List Sy) : Prop where
  two : 2 ≤ ms.length
  few : ms.length ≤ 20
  good : ∀ s ∈ ms, goodSy s
  leaf : ∀ i s, i < 2 → ms[i]? = some s → s.n = 0
def sp_law_marks : ASp := fun ds m P _ => ∃ c s, ds = [tapeD c s] ∧ TapeIn m c s ∧ ∀ ms m', MarksOk ms → Tp c s m m' → P (.lst (ms.map syD)) m'
def nmW : List (List Nat) := [[98], [97, 98], [97, 45, 57], [122, 122, 48], [113], [97, 98, 99, 100, 101, 102, 103, 104, 105, 106, 107, 108, 109, 110, 111, 112], [99], [98, 45]]
theorem nmW_ok : ∀ w ∈ nmW, okWord w ∧ w ≠ [46] := by
  intro w hw
  have : ∃ c r, w = c :: r ∧ low c ∧ (∀ x ∈ r, wsg x) ∧ r.length ≤ 15 := by
    simp only [nmW, List.mem_cons, List.not_mem_nil, or_false] at hw
    rcases hw with rfl | rfl | rfl | rfl | rfl | rfl | rfl | rfl <;> exact ⟨_, _, rfl, by decide, by decide, by decide⟩
  refine ⟨.inr this, ?_⟩
  rintro rfl
  obtain ⟨c, r, e, h, _⟩ := this
  cases e
  exact absurd h (by decide)
theorem nm_get {i : Int} (h0 : 0 ≤ i) (h8 : i < 8) : ∃ w, w ∈ nmW ∧ atI ([.str "b", .str "ab", .str "a-9", .str "zz0", .str "q", .str "abcdefghijklmnop", .str "c", .str "b-"] : List D) i = some (.str (tx w)) := by
  have : i = 0 ∨ i = 1 ∨ i = 2 ∨ i = 3 ∨ i = 4 ∨ i = 5 ∨ i = 6 ∨ i = 7 := by omega
  rcases this with rfl | rfl | rfl | rfl | rfl | rfl | rfl | rfl
  · exact ⟨nmW[0], by decide, by rfl⟩
  · exact ⟨nmW[1], by decide, by rfl⟩
  · exact ⟨nmW[2], by decide, by rfl⟩
  · exact ⟨nmW[3], by decide, by rfl⟩
  · exact ⟨nmW[4], by decide, by rfl⟩
  · exact ⟨nmW[5], by decide, by rfl⟩
  · exact ⟨nmW[6], by decide, by rfl⟩
  · exact ⟨nmW[7], by decide, by rfl⟩
theorem nn_of {r : Int} (h : 0 ≤ r) : ∃ k : Nat, r = k := ⟨r.toNat, by omega⟩
theorem rd_law_marks : ∀ ds m Q W, sp_law_marks ds m Q W → b_law_marks sp_law_pick W { nx := fun _ m' => fzE K Q .non m', rt := fzE K Q } (ds.map some ++ List.replicate (N_law_marks.length - ds.length) none) m := by
  rintro ds m Q W ⟨c, s, rfl, tp, hq⟩
  change b_law_marks sp_law_pick W _ [some (tapeD c s), none, none, none, none] m
  unfold b_law_marks
  simp only [aSeq, aSet, aC, aVar, aOp, aTest, aTru, aAnd, aOr, aNot, aAndV, aOrV, aNotV, aIfE, aNil, aCons, aTup, aLst, aLstB, aUn, aCa, aSl, aNo, aPart, aM, aML, aRet, aRetN, aIf, aDo, aNext, aCont, aBrk, aAsg, aCall, aCallX, aMeth, aFld, aSetFld, aFldAug, aAug, aRaise, aMake, aYes, kName, kCons, kNil, kSub, nth, put, wipeD, asT_b, fAdd_i, fAdd_s, fAdd_t, fAdd_l, fSub_i, fLt_i, fLe_i, fGt_i, fGe_i, fMul_i, fMod_i, fFdiv_i, fPow_i, fNeg_i, fEq_i, fEq_s, fEq_b, fNe_i, fNe_s, fNe_b, fIn_s, fNi_s, fIx_t0, fIx_t1, fIx_t2, fIx_l0, fIx_l1, fSl_s, fSl_t, fSl_l, fLen_t, fLen_l, fInt_i, fAbs_i, fMax_i, fMin_i, fTuple_t, fTuple_l, fList_t, fList_l, fRepS_s, seqOf_t, seqOf_l, truD_b, truD_t, truD_l, kTup_t, fIsN_n, fIsi_non_int, fIsi_non_bool, fIsi_non_str, fIsi_non_tuple, fIsi_non_list, fIsi_bl_int, fIsi_bl_bool, fIsi_bl_str, fIsi_bl_tuple, fIsi_bl_list, fIsi_int_int, fIsi_int_bool, fIsi_int_str, fIsi_int_tuple, fIsi_int_list, fIsi_str_int, fIsi_str_bool, fIsi_str_str, fIsi_str_tuple, fIsi_str_list, fIsi_tup_int, fIsi_tup_bool, fIsi_tup_str, fIsi_tup_tuple, fIsi_tup_list, fIsi_lst_int, fIsi_lst_bool, fIsi_lst_str, fIsi_lst_tuple, fIsi_lst_list, isN, fIx_sy0, fIx_sy1, ite_tt, ite_ff]
  refine ⟨by decide, c, s, 8, rfl, tp, by decide, by decide, fun r m1 r0 r8 t1 => ?_⟩
  obtain ⟨w1, hw1, e1⟩ := nm_get r0 r8
  obtain ⟨f1, f2⟩ := fmod_in (a := r + 1) (b := 8) (by decide)
  obtain ⟨w2, hw2, e2⟩ := nm_get f1 f2
  simp only [aSeq, aSet, aC, aVar, aOp, aTest, aTru, aAnd, aOr, aNot, aAndV, aOrV, aNotV, aIfE, aNil, aCons, aTup, aLst, aLstB, aUn, aCa, aSl, aNo, aPart, aM, aML, aRet, aRetN, aIf, aDo, aNext, aCont, aBrk, aAsg, aCall, aCallX, aMeth, aFld, aSetFld, aFldAug, aAug, aRaise, aMake, aYes, kName, kCons, kNil, kSub, nth, put, wipeD, asT_b, fAdd_i, fAdd_s, fAdd_t, fAdd_l, fSub_i, fLt_i, fLe_i, fGt_i, fGe_i, fMul_i, fMod_i, fFdiv_i, fPow_i, fNeg_i, fEq_i, fEq_s, fEq_b, fNe_i, fNe_s, fNe_b, fIn_s, fNi_s, fIx_t0, fIx_t1, fIx_t2, fIx_l0, fIx_l1, fSl_s, fSl_t, fSl_l, fLen_t, fLen_l, fInt_i, fAbs_i, fMax_i, fMin_i, fTuple_t, fTuple_l, fList_t, fList_l, fRepS_s, seqOf_t, seqOf_l, truD_b, truD_t, truD_l, kTup_t, fIsN_n, fIsi_non_int, fIsi_non_bool, fIsi_non_str, fIsi_non_tuple, fIsi_non_list, fIsi_bl_int, fIsi_bl_bool, fIsi_bl_str, fIsi_bl_tuple, fIsi_bl_list, fIsi_int_int, fIsi_int_bool, fIsi_int_str, fIsi_int_tuple, fIsi_int_list, fIsi_str_int, fIsi_str_bool, fIsi_str_str, fIsi_str_tuple, fIsi_str_list, fIsi_tup_int, fIsi_tup_bool, fIsi_tup_str, fIsi_tup_tuple, fIsi_tup_list, fIsi_lst_int, fIsi_lst_bool, fIsi_lst_str, fIsi_lst_tuple, fIsi_lst_list, isN, fIx_sy0, fIx_sy1, ite_tt, ite_ff, fIx_l e1, fIx_l e2]
  refine ⟨by simp, by decide, by simp, by simp, fun p hp => ?_⟩
  have fr0 := (Fr.of t1).add (o := .lst [.tup [.str (tx w1), .int 0], .tup [.str (tx w2), .int 0]]) hp
  have hpm : m p = none := (Fr.of t1).new hp (by simp)
  have hap := t1.tp.apart hp
  -- the state: the symbols so far stand at p
  let St : List Sy → Mu → Prop := fun ms m' => MarksOk ms ∧ m' p = some (.lst (ms.map syD)) ∧ Fr c s [p] m m'
  have ok2 : ∀ w, w ∈ nmW ∨ w = [46] → MarksOk [⟨w1, 0⟩, ⟨w, 0⟩] := fun w hw => by
    refine ⟨by simp, by simp, fun x hx => ?_, fun i x hi hx => ?_⟩
    · simp only [List.mem_cons, List.not_mem_nil, or_false] at hx
      rcases hx with rfl | rfl
      · exact ⟨(nmW_ok _ hw1).1, Nat.zero_le _, fun _ => rfl⟩
      · refine ⟨?_, Nat.zero_le _, fun _ => rfl⟩
        rcases hw with hw | rfl
        · exact (nmW_ok _ hw).1
        · exact .inl rfl
    · have : i = 0 ∨ i = 1 := by omega
      rcases this with rfl | rfl <;> (cases hx; rfl)
  have more : ∀ {ms : List Sy} {m2 m3 : Mu} {x : Sy}, St ms m2 → goodSy x → ms.length < 20 → Tp c s m2 m3 → St (ms ++ [x]) (mset m3 p (.lst ((ms ++ [x]).map syD))) := by
    rintro ms m2 m3 x ⟨⟨a1, a2, a3, a4⟩, b1, b2⟩ hx hl t
    refine ⟨⟨by simp; omega, by simp; omega, fun y hy => ?_, fun i y hi hy => ?_⟩, mset_same, (b2.go t).set (by simp)⟩
    · rcases List.mem_append.mp hy with h | h
      · exact a3 y h
      · rw [List.mem_singleton.mp h]
        exact hx
    · rw [List.getElem?_append_left (by omega)] at hy
      exact a4 i y hi hy
  have st0 : St [⟨w1, 0⟩, ⟨w2, 0⟩] (mset m1 p (.lst [.tup [.str (tx w1), .int 0], .tup [.str (tx w2), .int 0]])) := ⟨ok2 w2 (.inl hw2), mset_same, fr0⟩
  refine ⟨fun g m3 => ∃ w, (w ∈ nmW ∨ w = [46]) ∧ g = [some (tapeD c s), some (.lst [.str "b", .str "ab", .str "a-9", .str "zz0", .str "q", .str "abcdefghijklmnop", .str "c", .str "b-"]), some (.int r), some (.box p), none] ∧ m3 p = some (.lst ([⟨w1, 0⟩, ⟨w, 0⟩].map syD)) ∧ Fr c s [p] m m3, ?_, ?_⟩
  · simp only [aSeq, aSet, aC, aVar, aOp, aTest, aTru, aAnd, aOr, aNot, aAndV, aOrV, aNotV, aIfE, aNil, aCons, aTup, aLst, aLstB, aUn, aCa, aSl, aNo, aPart, aM, aML, aRet, aRetN, aIf, aDo, aNext, aCont, aBrk, aAsg, aCall, aCallX, aMeth, aFld, aSetFld, aFldAug, aAug, aRaise, aMake, aYes, kName, kCons, kNil, kSub, nth, put, wipeD, asT_b, fAdd_i, fAdd_s, fAdd_t, fAdd_l, fSub_i, fLt_i, fLe_i, fGt_i, fGe_i, fMul_i, fMod_i, fFdiv_i, fPow_i, fNeg_i, fEq_i, fEq_s, fEq_b, fNe_i, fNe_s, fNe_b, fIn_s, fNi_s, fIx_t0, fIx_t1, fIx_t2, fIx_l0, fIx_l1, fSl_s, fSl_t, fSl_l, fLen_t, fLen_l, fInt_i, fAbs_i, fMax_i, fMin_i, fTuple_t, fTuple_l, fList_t, fList_l, fRepS_s, seqOf_t, seqOf_l, truD_b, truD_t, truD_l, kTup_t, fIsN_n, fIsi_non_int, fIsi_non_bool, fIsi_non_str, fIsi_non_tuple, fIsi_non_list, fIsi_bl_int, fIsi_bl_bool, fIsi_bl_str, fIsi_bl_tuple, fIsi_bl_list, fIsi_int_int, fIsi_int_bool, fIsi_int_str, fIsi_int_tuple, fIsi_int_list, fIsi_str_int, fIsi_str_bool, fIsi_str_str, fIsi_str_tuple, fIsi_str_list, fIsi_tup_int, fIsi_tup_bool, fIsi_tup_str, fIsi_tup_tuple, fIsi_tup_list, fIsi_lst_int, fIsi_lst_bool, fIsi_lst_str, fIsi_lst_tuple, fIsi_lst_list, isN, fIx_sy0, fIx_sy1, ite_tt, ite_ff]
    refine ⟨c, s, 4, rfl, fr0.tp, by decide, by decide, fun r2 m2 r20 r24 t2 => ?_⟩
    have fr2 := fr0.go t2
    have hp2 : m2 p = some (.lst [.tup [.str (tx w1), .int 0], .tup [.str (tx w2), .int 0]]) := t2.own mset_same hap
    have hk : ixN [D.tup [.str (tx w1), .int 0], D.tup [.str (tx w2), .int 0]].length 1 = some 1 := rfl
    simp only [aSeq, aSet, aC, aVar, aOp, aTest, aTru, aAnd, aOr, aNot, aAndV, aOrV, aNotV, aIfE, aNil, aCons, aTup, aLst, aLstB, aUn, aCa, aSl, aNo, aPart, aM, aML, aRet, aRetN, aIf, aDo, aNext, aCont, aBrk, aAsg, aCall, aCallX, aMeth, aFld, aSetFld, aFldAug, aAug, aRaise, aMake, aYes, kName, kCons, kNil, kSub, nth, put, wipeD, asT_b, fAdd_i, fAdd_s, fAdd_t, fAdd_l, fSub_i, fLt_i, fLe_i, fGt_i, fGe_i, fMul_i, fMod_i, fFdiv_i, fPow_i, fNeg_i, fEq_i, fEq_s, fEq_b, fNe_i, fNe_s, fNe_b, fIn_s, fNi_s, fIx_t0, fIx_t1, fIx_t2, fIx_l0, fIx_l1, fSl_s, fSl_t, fSl_l, fLen_t, fLen_l, fInt_i, fAbs_i, fMax_i, fMin_i, fTuple_t, fTuple_l, fList_t, fList_l, fRepS_s, seqOf_t, seqOf_l, truD_b, truD_t, truD_l, kTup_t, fIsN_n, fIsi_non_int, fIsi_non_bool, fIsi_non_str, fIsi_non_tuple, fIsi_non_list, fIsi_bl_int, fIsi_bl_bool, fIsi_bl_str, fIsi_bl_tuple, fIsi_bl_list, fIsi_int_int, fIsi_int_bool, fIsi_int_str, fIsi_int_tuple, fIsi_int_list, fIsi_str_int, fIsi_str_bool, fIsi_str_str, fIsi_str_tuple, fIsi_str_list, fIsi_tup_int, fIsi_tup_bool, fIsi_tup_str, fIsi_tup_tuple, fIsi_tup_list, fIsi_lst_int, fIsi_lst_bool, fIsi_lst_str, fIsi_lst_tuple, fIsi_lst_list, isN, fIx_sy0, fIx_sy1, ite_tt, ite_ff, fSetIx_b hp2 hk]
    by_cases h1 : r2 = 1
    · rw [if_pos (decide_eq_true h1)]
      exact ⟨by decide, [46], .inr rfl, by trivial, mset_same, fr2.set (by simp)⟩
    · rw [if_neg (by simp [h1])]
      exact ⟨w2, .inl hw2, by trivial, hp2, fr2⟩
  · rintro g m3 ⟨w, hw, rfl, hp3, fr3⟩
    simp only [aSeq, aSet, aC, aVar, aOp, aTest, aTru, aAnd, aOr, aNot, aAndV, aOrV, aNotV, aIfE, aNil, aCons, aTup, aLst, aLstB, aUn, aCa, aSl, aNo, aPart, aM, aML, aRet, aRetN, aIf, aDo, aNext, aCont, aBrk, aAsg, aCall, aCallX, aMeth, aFld, aSetFld, aFldAug, aAug, aRaise, aMake, aYes, kName, kCons, kNil, kSub, nth, put, wipeD, asT_b, fAdd_i, fAdd_s, fAdd_t, fAdd_l, fSub_i, fLt_i, fLe_i, fGt_i, fGe_i, fMul_i, fMod_i, fFdiv_i, fPow_i, fNeg_i, fEq_i, fEq_s, fEq_b, fNe_i, fNe_s, fNe_b, fIn_s, fNi_s, fIx_t0, fIx_t1, fIx_t2, fIx_l0, fIx_l1, fSl_s, fSl_t, fSl_l, fLen_t, fLen_l, fInt_i, fAbs_i, fMax_i, fMin_i, fTuple_t, fTuple_l, fList_t, fList_l, fRepS_s, seqOf_t, seqOf_l, truD_b, truD_t, truD_l, kTup_t, fIsN_n, fIsi_non_int, fIsi_non_bool, fIsi_non_str, fIsi_non_tuple, fIsi_non_list, fIsi_bl_int, fIsi_bl_bool, fIsi_bl_str, fIsi_bl_tuple, fIsi_bl_list, fIsi_int_int, fIsi_int_bool, fIsi_int_str, fIsi_int_tuple, fIsi_int_list, fIsi_str_int, fIsi_str_bool, fIsi_str_str, fIsi_str_tuple, fIsi_str_list, fIsi_tup_int, fIsi_tup_bool, fIsi_tup_str, fIsi_tup_tuple, fIsi_tup_list, fIsi_lst_int, fIsi_lst_bool, fIsi_lst_str, fIsi_lst_tuple, fIsi_lst_list, isN, fIx_sy0, fIx_sy1, ite_tt, ite_ff]
    refine ⟨c, s, 5, rfl, fr3.tp, by decide, by decide, fun r3 m4 r30 r35 t3 => ?_⟩
    have fr4 := fr3.go t3
    have hp4 := t3.own hp3 hap
    simp only [aSeq, aSet, aC, aVar, aOp, aTest, aTru, aAnd, aOr, aNot, aAndV, aOrV, aNotV, aIfE, aNil, aCons, aTup, aLst, aLstB, aUn, aCa, aSl, aNo, aPart, aM, aML, aRet, aRetN, aIf, aDo, aNext, aCont, aBrk, aAsg, aCall, aCallX, aMeth, aFld, aSetFld, aFldAug, aAug, aRaise, aMake, aYes, kName, kCons, kNil, kSub, nth, put, wipeD, asT_b, fAdd_i, fAdd_s, fAdd_t, fAdd_l, fSub_i, fLt_i, fLe_i, fGt_i, fGe_i, fMul_i, fMod_i, fFdiv_i, fPow_i, fNeg_i, fEq_i, fEq_s, fEq_b, fNe_i, fNe_s, fNe_b, fIn_s, fNi_s, fIx_t0, fIx_t1, fIx_t2, fIx_l0, fIx_l1, fSl_s, fSl_t, fSl_l, fLen_t, fLen_l, fInt_i, fAbs_i, fMax_i, fMin_i, fTuple_t, fTuple_l, fList_t, fList_l, fRepS_s, seqOf_t, seqOf_l, truD_b, truD_t, truD_l, kTup_t, fIsN_n, fIsi_non_int, fIsi_non_bool, fIsi_non_str, fIsi_non_tuple, fIsi_non_list, fIsi_bl_int, fIsi_bl_bool, fIsi_bl_str, fIsi_bl_tuple, fIsi_bl_list, fIsi_int_int, fIsi_int_bool, fIsi_int_str, fIsi_int_tuple, fIsi_int_list, fIsi_str_int, fIsi_str_bool, fIsi_str_str, fIsi_str_tuple, fIsi_str_list, fIsi_tup_int, fIsi_tup_bool, fIsi_tup_str, fIsi_tup_tuple, fIsi_tup_list, fIsi_lst_int, fIsi_lst_bool, fIsi_lst_str, fIsi_lst_tuple, fIsi_lst_list, isN, fIx_sy0, fIx_sy1, ite_tt, ite_ff, aForR]
    refine ⟨0, 1 + r3, rfl, fun _ => rfl, by omega, fun i g m' => ∃ ms x, g = [some (tapeD c s), some (.lst [.str "b", .str "ab", .str "a-9", .str "zz0", .str "q", .str "abcdefghijklmnop", .str "c", .str "b-"]), some (.int r), some (.box p), x] ∧ ms.length = 2 + i ∧ St ms m', ⟨_, _, rfl, rfl, ok2 w hw, hp4, fr4⟩, ?_, ?_⟩
    · rintro i g m5 hi ⟨ms, x, rfl, hlen, st5⟩
      simp only [aSeq, aSet, aC, aVar, aOp, aTest, aTru, aAnd, aOr, aNot, aAndV, aOrV, aNotV, aIfE, aNil, aCons, aTup, aLst, aLstB, aUn, aCa, aSl, aNo, aPart, aM, aML, aRet, aRetN, aIf, aDo, aNext, aCont, aBrk, aAsg, aCall, aCallX, aMeth, aFld, aSetFld, aFldAug, aAug, aRaise, aMake, aYes, kName, kCons, kNil, kSub, nth, put, wipeD, asT_b, fAdd_i, fAdd_s, fAdd_t, fAdd_l, fSub_i, fLt_i, fLe_i, fGt_i, fGe_i, fMul_i, fMod_i, fFdiv_i, fPow_i, fNeg_i, fEq_i, fEq_s, fEq_b, fNe_i, fNe_s, fNe_b, fIn_s, fNi_s, fIx_t0, fIx_t1, fIx_t2, fIx_l0, fIx_l1, fSl_s, fSl_t, fSl_l, fLen_t, fLen_l, fInt_i, fAbs_i, fMax_i, fMin_i, fTuple_t, fTuple_l, fList_t, fList_l, fRepS_s, seqOf_t, seqOf_l, truD_b, truD_t, truD_l, kTup_t, fIsN_n, fIsi_non_int, fIsi_non_bool, fIsi_non_str, fIsi_non_tuple, fIsi_non_list, fIsi_bl_int, fIsi_bl_bool, fIsi_bl_str, fIsi_bl_tuple, fIsi_bl_list, fIsi_int_int, fIsi_int_bool, fIsi_int_str, fIsi_int_tuple, fIsi_int_list, fIsi_str_int, fIsi_str_bool, fIsi_str_str, fIsi_str_tuple, fIsi_str_list, fIsi_tup_int, fIsi_tup_bool, fIsi_tup_str, fIsi_tup_tuple, fIsi_tup_list, fIsi_lst_int, fIsi_lst_bool, fIsi_lst_str, fIsi_lst_tuple, fIsi_lst_list, isN, fIx_sy0, fIx_sy1, ite_tt, ite_ff, isL_b st5.2.1, true_and]
      refine ⟨c, s, 8, rfl, st5.2.2.tp, by decide, by decide, fun r6 m6 r60 r68 t6 => ?_⟩
      obtain ⟨f1, f2⟩ := fmod_in (a := r + r6) (b := 8) (by decide)
      obtain ⟨w3, hw3, e3⟩ := nm_get f1 f2
      simp only [aSeq, aSet, aC, aVar, aOp, aTest, aTru, aAnd, aOr, aNot, aAndV, aOrV, aNotV, aIfE, aNil, aCons, aTup, aLst, aLstB, aUn, aCa, aSl, aNo, aPart, aM, aML, aRet, aRetN, aIf, aDo, aNext, aCont, aBrk, aAsg, aCall, aCallX, aMeth, aFld, aSetFld, aFldAug, aAug, aRaise, aMake, aYes, kName, kCons, kNil, kSub, nth, put, wipeD, asT_b, fAdd_i, fAdd_s, fAdd_t, fAdd_l, fSub_i, fLt_i, fLe_i, fGt_i, fGe_i, fMul_i, fMod_i, fFdiv_i, fPow_i, fNeg_i, fEq_i, fEq_s, fEq_b, fNe_i, fNe_s, fNe_b, fIn_s, fNi_s, fIx_t0, fIx_t1, fIx_t2, fIx_l0, fIx_l1, fSl_s, fSl_t, fSl_l, fLen_t, fLen_l, fInt_i, fAbs_i, fMax_i, fMin_i, fTuple_t, fTuple_l, fList_t, fList_l, fRepS_s, seqOf_t, seqOf_l, truD_b, truD_t, truD_l, kTup_t, fIsN_n, fIsi_non_int, fIsi_non_bool, fIsi_non_str, fIsi_non_tuple, fIsi_non_list, fIsi_bl_int, fIsi_bl_bool, fIsi_bl_str, fIsi_bl_tuple, fIsi_bl_list, fIsi_int_int, fIsi_int_bool, fIsi_int_str, fIsi_int_tuple, fIsi_int_list, fIsi_str_int, fIsi_str_bool, fIsi_str_str, fIsi_str_tuple, fIsi_str_list, fIsi_tup_int, fIsi_tup_bool, fIsi_tup_str, fIsi_tup_tuple, fIsi_tup_list, fIsi_lst_int, fIsi_lst_bool, fIsi_lst_str, fIsi_lst_tuple, fIsi_lst_list, isN, fIx_sy0, fIx_sy1, ite_tt, ite_ff, fIx_l e3]
      refine ⟨by decide, by decide, c, s, 7, rfl, (st5.2.2.go t6).tp, by decide, by decide, fun r7 m7 r70 r77 t7 => ?_⟩
      have e7 : ∃ k : Nat, k ≤ 4 ∧ atI ([.int 1, .int 2, .int 1, .int 2, .int 3, .int 4, .int 0] : List D) r7 = some (.int (k : Int)) := by
        have : r7 = 0 ∨ r7 = 1 ∨ r7 = 2 ∨ r7 = 3 ∨ r7 = 4 ∨ r7 = 5 ∨ r7 = 6 := by omega
        rcases this with rfl | rfl | rfl | rfl | rfl | rfl | rfl
        · exact ⟨1, by decide, rfl⟩
        · exact ⟨2, by decide, rfl⟩
        · exact ⟨1, by decide, rfl⟩
        · exact ⟨2, by decide, rfl⟩
        · exact ⟨3, by decide, rfl⟩
        · exact ⟨4, by decide, rfl⟩
        · exact ⟨0, by decide, rfl⟩
      obtain ⟨k, hk, e7⟩ := e7
      have t67 := t6.trans t7
      have hp7 := t67.own st5.2.1 hap
      have st8 := more (x := ⟨w3, k⟩) st5 ⟨(nmW_ok _ hw3).1, hk, fun z => absurd z (nmW_ok _ hw3).2⟩ (by omega) t67
      simp only [aSeq, aSet, aC, aVar, aOp, aTest, aTru, aAnd, aOr, aNot, aAndV, aOrV, aNotV, aIfE, aNil, aCons, aTup, aLst, aLstB, aUn, aCa, aSl, aNo, aPart, aM, aML, aRet, aRetN, aIf, aDo, aNext, aCont, aBrk, aAsg, aCall, aCallX, aMeth, aFld, aSetFld, aFldAug, aAug, aRaise, aMake, aYes, kName, kCons, kNil, kSub, nth, put, wipeD, asT_b, fAdd_i, fAdd_s, fAdd_t, fAdd_l, fSub_i, fLt_i, fLe_i, fGt_i, fGe_i, fMul_i, fMod_i, fFdiv_i, fPow_i, fNeg_i, fEq_i, fEq_s, fEq_b, fNe_i, fNe_s, fNe_b, fIn_s, fNi_s, fIx_t0, fIx_t1, fIx_t2, fIx_l0, fIx_l1, fSl_s, fSl_t, fSl_l, fLen_t, fLen_l, fInt_i, fAbs_i, fMax_i, fMin_i, fTuple_t, fTuple_l, fList_t, fList_l, fRepS_s, seqOf_t, seqOf_l, truD_b, truD_t, truD_l, kTup_t, fIsN_n, fIsi_non_int, fIsi_non_bool, fIsi_non_str, fIsi_non_tuple, fIsi_non_list, fIsi_bl_int, fIsi_bl_bool, fIsi_bl_str, fIsi_bl_tuple, fIsi_bl_list, fIsi_int_int, fIsi_int_bool, fIsi_int_str, fIsi_int_tuple, fIsi_int_list, fIsi_str_int, fIsi_str_bool, fIsi_str_str, fIsi_str_tuple, fIsi_str_list, fIsi_tup_int, fIsi_tup_bool, fIsi_tup_str, fIsi_tup_tuple, fIsi_tup_list, fIsi_lst_int, fIsi_lst_bool, fIsi_lst_str, fIsi_lst_tuple, fIsi_lst_list, isN, fIx_sy0, fIx_sy1, ite_tt, ite_ff, fIx_l e7, fApp_b hp7]
      refine ⟨by simp, by simp; omega, ms ++ [(⟨w3, k⟩ : Sy)], _, by trivial, by simp; omega, ?_⟩
      rw [show ms.map syD ++ [D.tup [.str (tx w3), .int k]] = (ms ++ [(⟨w3, k⟩ : Sy)]).map syD by simp [syD]]
      exact st8
    · rintro g m5 ⟨ms, x, rfl, hlen, st5⟩
      simp only [aSeq, aSet, aC, aVar, aOp, aTest, aTru, aAnd, aOr, aNot, aAndV, aOrV, aNotV, aIfE, aNil, aCons, aTup, aLst, aLstB, aUn, aCa, aSl, aNo, aPart, aM, aML, aRet, aRetN, aIf, aDo, aNext, aCont, aBrk, aAsg, aCall, aCallX, aMeth, aFld, aSetFld, aFldAug, aAug, aRaise, aMake, aYes, kName, kCons, kNil, kSub, nth, put, wipeD, asT_b, fAdd_i, fAdd_s, fAdd_t, fAdd_l, fSub_i, fLt_i, fLe_i, fGt_i, fGe_i, fMul_i, fMod_i, fFdiv_i, fPow_i, fNeg_i, fEq_i, fEq_s, fEq_b, fNe_i, fNe_s, fNe_b, fIn_s, fNi_s, fIx_t0, fIx_t1, fIx_t2, fIx_l0, fIx_l1, fSl_s, fSl_t, fSl_l, fLen_t, fLen_l, fInt_i, fAbs_i, fMax_i, fMin_i, fTuple_t, fTuple_l, fList_t, fList_l, fRepS_s, seqOf_t, seqOf_l, truD_b, truD_t, truD_l, kTup_t, fIsN_n, fIsi_non_int, fIsi_non_bool, fIsi_non_str, fIsi_non_tuple, fIsi_non_list, fIsi_bl_int, fIsi_bl_bool, fIsi_bl_str, fIsi_bl_tuple, fIsi_bl_list, fIsi_int_int, fIsi_int_bool, fIsi_int_str, fIsi_int_tuple, fIsi_int_list, fIsi_str_int, fIsi_str_bool, fIsi_str_str, fIsi_str_tuple, fIsi_str_list, fIsi_tup_int, fIsi_tup_bool, fIsi_tup_str, fIsi_tup_tuple, fIsi_tup_list, fIsi_lst_int, fIsi_lst_bool, fIsi_lst_str, fIsi_lst_tuple, fIsi_lst_list, isN, fIx_sy0, fIx_sy1, ite_tt, ite_ff]
      refine ⟨_, _, Fz.lst st5.2.1, hq ms _ st5.1 (st5.2.2.del hpm).end_⟩
end AL
set_option maxHeartbeats 2000000
namespace AL
open PySem L2 Evl
variable {K : PySem.W.Frag}
/-! ### where a piece ends -/
def sp_law_far : ASp := fun ds m P _ => ∃ (r : List Sy) (k : Nat), ds = [rowD r, .int k] ∧ r.length ≤ 1000 ∧ okRow (r.drop k) 1 = true ∧ P (.int ((k + far (r.drop k) 1 : Nat) : Int)) m
theorem rd_law_far : ∀ ds m Q W, sp_law_far ds m Q W → b_law_far W { nx := fun _ m' => fzE K Q .non m', rt := fzE K Q } (ds.map some ++ List.replicate (N_law_far.length - ds.length) none) m := by
  rintro ds m Q W ⟨r, k, rfl, hl, hok, hq⟩
  change b_law_far W _ [some (rowD r), some (.int k), none] m
  unfold b_law_far
  simp only [aSeq, aSet, aC, aVar, aOp, aTest, aTru, aAnd, aOr, aNot, aAndV, aOrV, aNotV, aIfE, aNil, aCons, aTup, aLst, aLstB, aUn, aCa, aSl, aNo, aPart, aM, aML, aRet, aRetN, aIf, aDo, aNext, aCont, aBrk, aAsg, aCall, aCallX, aMeth, aFld, aSetFld, aFldAug, aAug, aRaise, aMake, aYes, kName, kCons, kNil, kSub, nth, put, wipeD, asT_b, fAdd_i, fAdd_s, fAdd_t, fAdd_l, fSub_i, fLt_i, fLe_i, fGt_i, fGe_i, fMul_i, fMod_i, fFdiv_i, fPow_i, fNeg_i, fEq_i, fEq_s, fEq_b, fNe_i, fNe_s, fNe_b, fIn_s, fNi_s, fIx_t0, fIx_t1, fIx_t2, fIx_l0, fIx_l1, fSl_s, fSl_t, fSl_l, fLen_t, fLen_l, fInt_i, fAbs_i, fMax_i, fMin_i, fTuple_t, fTuple_l, fList_t, fList_l, fRepS_s, seqOf_t, seqOf_l, truD_b, truD_t, truD_l, kTup_t, fIsN_n, fIsi_non_int, fIsi_non_bool, fIsi_non_str, fIsi_non_tuple, fIsi_non_list, fIsi_bl_int, fIsi_bl_bool, fIsi_bl_str, fIsi_bl_tuple, fIsi_bl_list, fIsi_int_int, fIsi_int_bool, fIsi_int_str, fIsi_int_tuple, fIsi_int_list, fIsi_str_int, fIsi_str_bool, fIsi_str_str, fIsi_str_tuple, fIsi_str_list, fIsi_tup_int, fIsi_tup_bool, fIsi_tup_str, fIsi_tup_tuple, fIsi_tup_list, fIsi_lst_int, fIsi_lst_bool, fIsi_lst_str, fIsi_lst_tuple, fIsi_lst_list, isN, fIx_sy0, fIx_sy1, ite_tt, ite_ff]
  refine ⟨fun n g m' => ∃ (j : Nat) (need : Nat), g = [some (rowD r), some (.int ((k + j : Nat) : Int)), some (.int (need : Int))] ∧ m' = m ∧ n = r.length - (k + j) ∧ k + j ≤ r.length ∧ okRow (r.drop (k + j)) need = true ∧ j + far (r.drop (k + j)) need = far (r.drop k) 1, ⟨r.length - k, 0, 1, rfl, rfl, rfl, ?_, hok, by simp⟩, ?_⟩
  · cases hc : r.drop k with
    | nil =>
      rw [hc] at hok
      cases hok
    | cons s t =>
      have := (at_drop hc).2.2
      omega
  · rintro n g m' ⟨j, need, rfl, rfl, rfl, hle, hok', hf⟩
    cases need with
    | zero =>
      simp only [aSeq, aSet, aC, aVar, aOp, aTest, aTru, aAnd, aOr, aNot, aAndV, aOrV, aNotV, aIfE, aNil, aCons, aTup, aLst, aLstB, aUn, aCa, aSl, aNo, aPart, aM, aML, aRet, aRetN, aIf, aDo, aNext, aCont, aBrk, aAsg, aCall, aCallX, aMeth, aFld, aSetFld, aFldAug, aAug, aRaise, aMake, aYes, kName, kCons, kNil, kSub, nth, put, wipeD, asT_b, fAdd_i, fAdd_s, fAdd_t, fAdd_l, fSub_i, fLt_i, fLe_i, fGt_i, fGe_i, fMul_i, fMod_i, fFdiv_i, fPow_i, fNeg_i, fEq_i, fEq_s, fEq_b, fNe_i, fNe_s, fNe_b, fIn_s, fNi_s, fIx_t0, fIx_t1, fIx_t2, fIx_l0, fIx_l1, fSl_s, fSl_t, fSl_l, fLen_t, fLen_l, fInt_i, fAbs_i, fMax_i, fMin_i, fTuple_t, fTuple_l, fList_t, fList_l, fRepS_s, seqOf_t, seqOf_l, truD_b, truD_t, truD_l, kTup_t, fIsN_n, fIsi_non_int, fIsi_non_bool, fIsi_non_str, fIsi_non_tuple, fIsi_non_list, fIsi_bl_int, fIsi_bl_bool, fIsi_bl_str, fIsi_bl_tuple, fIsi_bl_list, fIsi_int_int, fIsi_int_bool, fIsi_int_str, fIsi_int_tuple, fIsi_int_list, fIsi_str_int, fIsi_str_bool, fIsi_str_str, fIsi_str_tuple, fIsi_str_list, fIsi_tup_int, fIsi_tup_bool, fIsi_tup_str, fIsi_tup_tuple, fIsi_tup_list, fIsi_lst_int, fIsi_lst_bool, fIsi_lst_str, fIsi_lst_tuple, fIsi_lst_list, isN, fIx_sy0, fIx_sy1, ite_tt, ite_ff]
      rw [far_zero] at hf
      have e : j = far (r.drop k) 1 := by omega
      subst e
      exact fzE.of hq
    | succ need =>
      cases hc : r.drop (k + j) with
      | nil =>
        rw [hc] at hok'
        cases hok'
      | cons s t =>
        obtain ⟨hs, hd, hlt⟩ := at_drop hc
        simp only [aSeq, aSet, aC, aVar, aOp, aTest, aTru, aAnd, aOr, aNot, aAndV, aOrV, aNotV, aIfE, aNil, aCons, aTup, aLst, aLstB, aUn, aCa, aSl, aNo, aPart, aM, aML, aRet, aRetN, aIf, aDo, aNext, aCont, aBrk, aAsg, aCall, aCallX, aMeth, aFld, aSetFld, aFldAug, aAug, aRaise, aMake, aYes, kName, kCons, kNil, kSub, nth, put, wipeD, asT_b, fAdd_i, fAdd_s, fAdd_t, fAdd_l, fSub_i, fLt_i, fLe_i, fGt_i, fGe_i, fMul_i, fMod_i, fFdiv_i, fPow_i, fNeg_i, fEq_i, fEq_s, fEq_b, fNe_i, fNe_s, fNe_b, fIn_s, fNi_s, fIx_t0, fIx_t1, fIx_t2, fIx_l0, fIx_l1, fSl_s, fSl_t, fSl_l, fLen_t, fLen_l, fInt_i, fAbs_i, fMax_i, fMin_i, fTuple_t, fTuple_l, fList_t, fList_l, fRepS_s, seqOf_t, seqOf_l, truD_b, truD_t, truD_l, kTup_t, fIsN_n, fIsi_non_int, fIsi_non_bool, fIsi_non_str, fIsi_non_tuple, fIsi_non_list, fIsi_bl_int, fIsi_bl_bool, fIsi_bl_str, fIsi_bl_tuple, fIsi_bl_list, fIsi_int_int, fIsi_int_bool, fIsi_int_str, fIsi_int_tuple, fIsi_int_list, fIsi_str_int, fIsi_str_bool, fIsi_str_str, fIsi_str_tuple, fIsi_str_list, fIsi_tup_int, fIsi_tup_bool, fIsi_tup_str, fIsi_tup_tuple, fIsi_tup_list, fIsi_lst_int, fIsi_lst_bool, fIsi_lst_str, fIsi_lst_tuple, fIsi_lst_list, isN, fIx_sy0, fIx_sy1, ite_tt, ite_ff, fIx_row hs]
        rw [hc] at hok' hf
        rw [if_pos (by simp)]
        have h2 : far (s :: t) (need + 1) = far t (need + s.n) + 1 := rfl
        refine ⟨r.length - (k + (j + 1)), by omega, j + 1, need + s.n, ?_, by trivial, rfl, by omega, ?_, ?_⟩
        · rw [int_eq (show ((k + j : Nat) : Int) + 1 = ((k + (j + 1) : Nat) : Int) by omega), int_eq (show ((need + 1 : Nat) : Int) + (s.n : Int) - 1 = ((need + s.n : Nat) : Int) by omega)]
        · rw [← Nat.add_assoc, hd]
          exact hok'
        · rw [← Nat.add_assoc k j 1, hd]
          omega
/-! ### a tree grown -/
def sp_law_tree : ASp := fun ds m P _ => ∃ (c s : Addr) (ms : List Sy) (n : Nat), ds = [tapeD c s, .lst (ms.map syD), .int n] ∧ TapeIn m c s ∧ MarksOk ms ∧ 1 ≤ n ∧ n ≤ 1000 ∧
  ∀ t m', whole t → t.length ≤ n → (∀ x ∈ t, goodSy x) → Tp c s m m' → P (rowD t) m'
theorem marks_get {ms : List Sy} {i : Int} (h0 : 0 ≤ i) (h : i < (ms.length : Int)) : ∃ x, x ∈ ms ∧ ms[i.toNat]? = some x ∧ atI (ms.map syD) i = some (syD x) := by
  have hl : i.toNat < ms.length := by omega
  refine ⟨ms[i.toNat], List.getElem_mem hl, List.getElem?_eq_getElem hl, atI_i (i := i.toNat) (by omega) (row_get (List.getElem?_eq_getElem hl))⟩
theorem rd_law_tree : ∀ ds m Q W, sp_law_tree ds m Q W → b_law_tree sp_law_pick W { nx := fun _ m' => fzE K Q .non m', rt := fzE K Q } (ds.map some ++ List.replicate (N_law_tree.length - ds.length) none) m := by
  rintro ds m Q W ⟨c, s, ms, n, rfl, tp, ok, n1, n2, hq⟩
  change b_law_tree sp_law_pick W _ [some (tapeD c s), some (.lst (ms.map syD)), some (.int n), none, none, none] m
  unfold b_law_tree
  simp only [aSeq, aSet, aC, aVar, aOp, aTest, aTru, aAnd, aOr, aNot, aAndV, aOrV, aNotV, aIfE, aNil, aCons, aTup, aLst, aLstB, aUn, aCa, aSl, aNo, aPart, aM, aML, aRet, aRetN, aIf, aDo, aNext, aCont, aBrk, aAsg, aCall, aCallX, aMeth, aFld, aSetFld, aFldAug, aAug, aRaise, aMake, aYes, kName, kCons, kNil, kSub, nth, put, wipeD, asT_b, fAdd_i, fAdd_s, fAdd_t, fAdd_l, fSub_i, fLt_i, fLe_i, fGt_i, fGe_i, fMul_i, fMod_i, fFdiv_i, fPow_i, fNeg_i, fEq_i, fEq_s, fEq_b, fNe_i, fNe_s, fNe_b, fIn_s, fNi_s, fIx_t0, fIx_t1, fIx_t2, fIx_l0, fIx_l1, fSl_s, fSl_t, fSl_l, fLen_t, fLen_l, fInt_i, fAbs_i, fMax_i, fMin_i, fTuple_t, fTuple_l, fList_t, fList_l, fRepS_s, seqOf_t, seqOf_l, truD_b, truD_t, truD_l, kTup_t, fIsN_n, fIsi_non_int, fIsi_non_bool, fIsi_non_str, fIsi_non_tuple, fIsi_non_list, fIsi_bl_int, fIsi_bl_bool, fIsi_bl_str, fIsi_bl_tuple, fIsi_bl_list, fIsi_int_int, fIsi_int_bool, fIsi_int_str, fIsi_int_tuple, fIsi_int_list, fIsi_str_int, fIsi_str_bool, fIsi_str_str, fIsi_str_tuple, fIsi_str_list, fIsi_tup_int, fIsi_tup_bool, fIsi_tup_str, fIsi_tup_tuple, fIsi_tup_list, fIsi_lst_int, fIsi_lst_bool, fIsi_lst_str, fIsi_lst_tuple, fIsi_lst_list, isN, fIx_sy0, fIx_sy1, ite_tt, ite_ff]
  refine ⟨by decide, fun p hp => ?_⟩
  have hap := tp.apart hp
  refine ⟨fun k g m' => ∃ (t : List Sy) (need : Nat) (x : Option D), g = [some (tapeD c s), some (.lst (ms.map syD)), some (.int n), some (.box p), some (.int (need : Int)), x] ∧ k = n - t.length ∧ t.length + need ≤ n ∧ run t 1 = some need ∧ (∀ y ∈ t, goodSy y) ∧ m' p = some (.lst (t.map syD)) ∧ Fr c s [p] m m',
    ⟨n, [], 1, none, rfl, rfl, by simp; omega, rfl, fun _ h => (by cases h), mset_same, (Fr.of (Tp.refl tp)).add hp⟩, ?_⟩
  rintro k g m' ⟨t, need, x, rfl, rfl, hlen, hrun, hgood, hpt, fr⟩
  simp only [aSeq, aSet, aC, aVar, aOp, aTest, aTru, aAnd, aOr, aNot, aAndV, aOrV, aNotV, aIfE, aNil, aCons, aTup, aLst, aLstB, aUn, aCa, aSl, aNo, aPart, aM, aML, aRet, aRetN, aIf, aDo, aNext, aCont, aBrk, aAsg, aCall, aCallX, aMeth, aFld, aSetFld, aFldAug, aAug, aRaise, aMake, aYes, kName, kCons, kNil, kSub, nth, put, wipeD, asT_b, fAdd_i, fAdd_s, fAdd_t, fAdd_l, fSub_i, fLt_i, fLe_i, fGt_i, fGe_i, fMul_i, fMod_i, fFdiv_i, fPow_i, fNeg_i, fEq_i, fEq_s, fEq_b, fNe_i, fNe_s, fNe_b, fIn_s, fNi_s, fIx_t0, fIx_t1, fIx_t2, fIx_l0, fIx_l1, fSl_s, fSl_t, fSl_l, fLen_t, fLen_l, fInt_i, fAbs_i, fMax_i, fMin_i, fTuple_t, fTuple_l, fList_t, fList_l, fRepS_s, seqOf_t, seqOf_l, truD_b, truD_t, truD_l, kTup_t, fIsN_n, fIsi_non_int, fIsi_non_bool, fIsi_non_str, fIsi_non_tuple, fIsi_non_list, fIsi_bl_int, fIsi_bl_bool, fIsi_bl_str, fIsi_bl_tuple, fIsi_bl_list, fIsi_int_int, fIsi_int_bool, fIsi_int_str, fIsi_int_tuple, fIsi_int_list, fIsi_str_int, fIsi_str_bool, fIsi_str_str, fIsi_str_tuple, fIsi_str_list, fIsi_tup_int, fIsi_tup_bool, fIsi_tup_str, fIsi_tup_tuple, fIsi_tup_list, fIsi_lst_int, fIsi_lst_bool, fIsi_lst_str, fIsi_lst_tuple, fIsi_lst_list, isN, fIx_sy0, fIx_sy1, ite_tt, ite_ff]
  cases need with
  | zero =>
    rw [if_neg (by simp)]
    simp only [aSeq, aSet, aC, aVar, aOp, aTest, aTru, aAnd, aOr, aNot, aAndV, aOrV, aNotV, aIfE, aNil, aCons, aTup, aLst, aLstB, aUn, aCa, aSl, aNo, aPart, aM, aML, aRet, aRetN, aIf, aDo, aNext, aCont, aBrk, aAsg, aCall, aCallX, aMeth, aFld, aSetFld, aFldAug, aAug, aRaise, aMake, aYes, kName, kCons, kNil, kSub, nth, put, wipeD, asT_b, fAdd_i, fAdd_s, fAdd_t, fAdd_l, fSub_i, fLt_i, fLe_i, fGt_i, fGe_i, fMul_i, fMod_i, fFdiv_i, fPow_i, fNeg_i, fEq_i, fEq_s, fEq_b, fNe_i, fNe_s, fNe_b, fIn_s, fNi_s, fIx_t0, fIx_t1, fIx_t2, fIx_l0, fIx_l1, fSl_s, fSl_t, fSl_l, fLen_t, fLen_l, fInt_i, fAbs_i, fMax_i, fMin_i, fTuple_t, fTuple_l, fList_t, fList_l, fRepS_s, seqOf_t, seqOf_l, truD_b, truD_t, truD_l, kTup_t, fIsN_n, fIsi_non_int, fIsi_non_bool, fIsi_non_str, fIsi_non_tuple, fIsi_non_list, fIsi_bl_int, fIsi_bl_bool, fIsi_bl_str, fIsi_bl_tuple, fIsi_bl_list, fIsi_int_int, fIsi_int_bool, fIsi_int_str, fIsi_int_tuple, fIsi_int_list, fIsi_str_int, fIsi_str_bool, fIsi_str_str, fIsi_str_tuple, fIsi_str_list, fIsi_tup_int, fIsi_tup_bool, fIsi_tup_str, fIsi_tup_tuple, fIsi_tup_list, fIsi_lst_int, fIsi_lst_bool, fIsi_lst_str, fIsi_lst_tuple, fIsi_lst_list, isN, fIx_sy0, fIx_sy1, ite_tt, ite_ff, fTuple_b hpt]
    exact ⟨_, _, Fz.drop p, hq t _ hrun (by omega) hgood (fr.del hp).end_⟩
  | succ need =>
    rw [if_pos (by simp)]
    rw [List.length_map]
    have hms := ok.two
    have hfew := ok.few
    refine ⟨c, s, ms.length, rfl, fr.tp, by omega, by omega, fun r m1 r0 r1 t1 => ?_⟩
    obtain ⟨y, hy, _, hyi⟩ := marks_get r0 r1
    have hp1 := t1.own hpt hap
    have fr1 := fr.go t1
    simp only [aSeq, aSet, aC, aVar, aOp, aTest, aTru, aAnd, aOr, aNot, aAndV, aOrV, aNotV, aIfE, aNil, aCons, aTup, aLst, aLstB, aUn, aCa, aSl, aNo, aPart, aM, aML, aRet, aRetN, aIf, aDo, aNext, aCont, aBrk, aAsg, aCall, aCallX, aMeth, aFld, aSetFld, aFldAug, aAug, aRaise, aMake, aYes, kName, kCons, kNil, kSub, nth, put, wipeD, asT_b, fAdd_i, fAdd_s, fAdd_t, fAdd_l, fSub_i, fLt_i, fLe_i, fGt_i, fGe_i, fMul_i, fMod_i, fFdiv_i, fPow_i, fNeg_i, fEq_i, fEq_s, fEq_b, fNe_i, fNe_s, fNe_b, fIn_s, fNi_s, fIx_t0, fIx_t1, fIx_t2, fIx_l0, fIx_l1, fSl_s, fSl_t, fSl_l, fLen_t, fLen_l, fInt_i, fAbs_i, fMax_i, fMin_i, fTuple_t, fTuple_l, fList_t, fList_l, fRepS_s, seqOf_t, seqOf_l, truD_b, truD_t, truD_l, kTup_t, fIsN_n, fIsi_non_int, fIsi_non_bool, fIsi_non_str, fIsi_non_tuple, fIsi_non_list, fIsi_bl_int, fIsi_bl_bool, fIsi_bl_str, fIsi_bl_tuple, fIsi_bl_list, fIsi_int_int, fIsi_int_bool, fIsi_int_str, fIsi_int_tuple, fIsi_int_list, fIsi_str_int, fIsi_str_bool, fIsi_str_str, fIsi_str_tuple, fIsi_str_list, fIsi_tup_int, fIsi_tup_bool, fIsi_tup_str, fIsi_tup_tuple, fIsi_tup_list, fIsi_lst_int, fIsi_lst_bool, fIsi_lst_str, fIsi_lst_tuple, fIsi_lst_list, isN, fIx_sy0, fIx_sy1, ite_tt, ite_ff, fIx_l hyi]
    refine ⟨fun g m3 => ∃ z, goodSy z ∧ t.length + (need + 1) + z.n ≤ n ∧ g = [some (tapeD c s), some (.lst (ms.map syD)), some (.int n), some (.box p), some (.int ((need + 1 : Nat) : Int)), some (syD z)] ∧ m3 p = some (.lst (t.map syD)) ∧ Fr c s [p] m m3, ?_, ?_⟩
    · simp only [aSeq, aSet, aC, aVar, aOp, aTest, aTru, aAnd, aOr, aNot, aAndV, aOrV, aNotV, aIfE, aNil, aCons, aTup, aLst, aLstB, aUn, aCa, aSl, aNo, aPart, aM, aML, aRet, aRetN, aIf, aDo, aNext, aCont, aBrk, aAsg, aCall, aCallX, aMeth, aFld, aSetFld, aFldAug, aAug, aRaise, aMake, aYes, kName, kCons, kNil, kSub, nth, put, wipeD, asT_b, fAdd_i, fAdd_s, fAdd_t, fAdd_l, fSub_i, fLt_i, fLe_i, fGt_i, fGe_i, fMul_i, fMod_i, fFdiv_i, fPow_i, fNeg_i, fEq_i, fEq_s, fEq_b, fNe_i, fNe_s, fNe_b, fIn_s, fNi_s, fIx_t0, fIx_t1, fIx_t2, fIx_l0, fIx_l1, fSl_s, fSl_t, fSl_l, fLen_t, fLen_l, fInt_i, fAbs_i, fMax_i, fMin_i, fTuple_t, fTuple_l, fList_t, fList_l, fRepS_s, seqOf_t, seqOf_l, truD_b, truD_t, truD_l, kTup_t, fIsN_n, fIsi_non_int, fIsi_non_bool, fIsi_non_str, fIsi_non_tuple, fIsi_non_list, fIsi_bl_int, fIsi_bl_bool, fIsi_bl_str, fIsi_bl_tuple, fIsi_bl_list, fIsi_int_int, fIsi_int_bool, fIsi_int_str, fIsi_int_tuple, fIsi_int_list, fIsi_str_int, fIsi_str_bool, fIsi_str_str, fIsi_str_tuple, fIsi_str_list, fIsi_tup_int, fIsi_tup_bool, fIsi_tup_str, fIsi_tup_tuple, fIsi_tup_list, fIsi_lst_int, fIsi_lst_bool, fIsi_lst_str, fIsi_lst_tuple, fIsi_lst_list, isN, fIx_sy0, fIx_sy1, ite_tt, ite_ff, fLen_b hp1]
      rw [List.length_map]
      by_cases hbig : (n : Int) - t.length - ((need + 1 : Nat) : Int) < (y.n : Int)
      · rw [if_pos (decide_eq_true hbig)]
        refine ⟨c, s, 2, rfl, fr1.tp, by decide, by decide, fun r2 m2 r20 r22 t2 => ?_⟩
        obtain ⟨z, hz, hz2, hzi⟩ := marks_get (ms := ms) r20 (by omega)
        simp only [aSeq, aSet, aC, aVar, aOp, aTest, aTru, aAnd, aOr, aNot, aAndV, aOrV, aNotV, aIfE, aNil, aCons, aTup, aLst, aLstB, aUn, aCa, aSl, aNo, aPart, aM, aML, aRet, aRetN, aIf, aDo, aNext, aCont, aBrk, aAsg, aCall, aCallX, aMeth, aFld, aSetFld, aFldAug, aAug, aRaise, aMake, aYes, kName, kCons, kNil, kSub, nth, put, wipeD, asT_b, fAdd_i, fAdd_s, fAdd_t, fAdd_l, fSub_i, fLt_i, fLe_i, fGt_i, fGe_i, fMul_i, fMod_i, fFdiv_i, fPow_i, fNeg_i, fEq_i, fEq_s, fEq_b, fNe_i, fNe_s, fNe_b, fIn_s, fNi_s, fIx_t0, fIx_t1, fIx_t2, fIx_l0, fIx_l1, fSl_s, fSl_t, fSl_l, fLen_t, fLen_l, fInt_i, fAbs_i, fMax_i, fMin_i, fTuple_t, fTuple_l, fList_t, fList_l, fRepS_s, seqOf_t, seqOf_l, truD_b, truD_t, truD_l, kTup_t, fIsN_n, fIsi_non_int, fIsi_non_bool, fIsi_non_str, fIsi_non_tuple, fIsi_non_list, fIsi_bl_int, fIsi_bl_bool, fIsi_bl_str, fIsi_bl_tuple, fIsi_bl_list, fIsi_int_int, fIsi_int_bool, fIsi_int_str, fIsi_int_tuple, fIsi_int_list, fIsi_str_int, fIsi_str_bool, fIsi_str_str, fIsi_str_tuple, fIsi_str_list, fIsi_tup_int, fIsi_tup_bool, fIsi_tup_str, fIsi_tup_tuple, fIsi_tup_list, fIsi_lst_int, fIsi_lst_bool, fIsi_lst_str, fIsi_lst_tuple, fIsi_lst_list, isN, fIx_sy0, fIx_sy1, ite_tt, ite_ff, fIx_l hzi]
        have z0 : z.n = 0 := ok.leaf r2.toNat z (by omega) hz2
        exact ⟨z, ok.good z hz, by omega, by trivial, t2.own hp1 hap, fr1.go t2⟩
      · rw [if_neg (by simpa using hbig)]
        exact ⟨y, ok.good y hy, by omega, by trivial, hp1, fr1⟩
    · rintro g m3 ⟨z, hz, hzn, rfl, hp3, fr3⟩
      simp only [aSeq, aSet, aC, aVar, aOp, aTest, aTru, aAnd, aOr, aNot, aAndV, aOrV, aNotV, aIfE, aNil, aCons, aTup, aLst, aLstB, aUn, aCa, aSl, aNo, aPart, aM, aML, aRet, aRetN, aIf, aDo, aNext, aCont, aBrk, aAsg, aCall, aCallX, aMeth, aFld, aSetFld, aFldAug, aAug, aRaise, aMake, aYes, kName, kCons, kNil, kSub, nth, put, wipeD, asT_b, fAdd_i, fAdd_s, fAdd_t, fAdd_l, fSub_i, fLt_i, fLe_i, fGt_i, fGe_i, fMul_i, fMod_i, fFdiv_i, fPow_i, fNeg_i, fEq_i, fEq_s, fEq_b, fNe_i, fNe_s, fNe_b, fIn_s, fNi_s, fIx_t0, fIx_t1, fIx_t2, fIx_l0, fIx_l1, fSl_s, fSl_t, fSl_l, fLen_t, fLen_l, fInt_i, fAbs_i, fMax_i, fMin_i, fTuple_t, fTuple_l, fList_t, fList_l, fRepS_s, seqOf_t, seqOf_l, truD_b, truD_t, truD_l, kTup_t, fIsN_n, fIsi_non_int, fIsi_non_bool, fIsi_non_str, fIsi_non_tuple, fIsi_non_list, fIsi_bl_int, fIsi_bl_bool, fIsi_bl_str, fIsi_bl_tuple, fIsi_bl_list, fIsi_int_int, fIsi_int_bool, fIsi_int_str, fIsi_int_tuple, fIsi_int_list, fIsi_str_int, fIsi_str_bool, fIsi_str_str, fIsi_str_tuple, fIsi_str_list, fIsi_tup_int, fIsi_tup_bool, fIsi_tup_str, fIsi_tup_tuple, fIsi_tup_list, fIsi_lst_int, fIsi_lst_bool, fIsi_lst_str, fIsi_lst_tuple, fIsi_lst_list, isN, fIx_sy0, fIx_sy1, ite_tt, ite_ff, isL_b hp3, fApp_b hp3, true_and]
      rw [List.length_map]
      refine ⟨by omega, n - (t.length + 1), by omega, t ++ [z], need + z.n, some (syD z), ?_, by simp, by simp; omega, ?_, ?_, ?_, fr3.set (by simp)⟩
      · rw [int_eq (show ((need + 1 : Nat) : Int) - 1 + (z.n : Int) = ((need + z.n : Nat) : Int) by omega)]
      · rw [run_app, hrun] <;> rfl
      · intro w hw
        rcases List.mem_append.mp hw with h | h
        · exact hgood w h
        · rw [List.mem_singleton.mp h]
          exact hz
      · rw [mset_same, List.map_append] <;> rfl
end AL
set_option maxHeartbeats 2000000
namespace AL
open PySem L2 Evl
variable {K : PySem.W.Frag}
/-! ### the same data -/
def sp_law_same : ASp := fun ds m P _ => ∃ x : D, ds = [x, x] ∧ pure? x = true ∧ dsize x ≤ 90000 ∧ P (.bl true) m
def pairs (xs : List D) : List D := xs.map fun x => .tup [x, x]
theorem tyOf_pure {m : Mu} {x : D} (h : pure? x = true) : (∃ ds, x = .tup ds) ∨ x = .non ∨ (∃ b, x = .bl b) ∨ (∃ i, x = .int i) ∨ (∃ z, x = .str z) := by
  cases x <;> first | (cases h; done) | simp
theorem rd_law_same : ∀ ds m Q W, sp_law_same ds m Q W → b_law_same W { nx := fun _ m' => fzE K Q .non m', rt := fzE K Q } (ds.map some ++ List.replicate (N_law_same.length - ds.length) none) m := by
  rintro ds m Q W ⟨x, rfl, hp, hsz, hq⟩
  change b_law_same W _ [some x, some x, none, none, none, none, none] m
  unfold b_law_same
  simp only [aSeq, aSet, aC, aVar, aOp, aTest, aTru, aAnd, aOr, aNot, aAndV, aOrV, aNotV, aIfE, aNil, aCons, aTup, aLst, aLstB, aUn, aCa, aSl, aNo, aPart, aM, aML, aRet, aRetN, aIf, aDo, aNext, aCont, aBrk, aAsg, aCall, aCallX, aMeth, aFld, aSetFld, aFldAug, aAug, aRaise, aMake, aYes, kName, kCons, kNil, kSub, nth, put, wipeD, asT_b, fAdd_i, fAdd_s, fAdd_t, fAdd_l, fSub_i, fLt_i, fLe_i, fGt_i, fGe_i, fMul_i, fMod_i, fFdiv_i, fPow_i, fNeg_i, fEq_i, fEq_s, fEq_b, fNe_i, fNe_s, fNe_b, fIn_s, fNi_s, fIx_t0, fIx_t1, fIx_t2, fIx_l0, fIx_l1, fSl_s, fSl_t, fSl_l, fLen_t, fLen_l, fInt_i, fAbs_i, fMax_i, fMin_i, fTuple_t, fTuple_l, fList_t, fList_l, fRepS_s, seqOf_t, seqOf_l, truD_b, truD_t, truD_l, kTup_t, fIsN_n, fIsi_non_int, fIsi_non_bool, fIsi_non_str, fIsi_non_tuple, fIsi_non_list, fIsi_bl_int, fIsi_bl_bool, fIsi_bl_str, fIsi_bl_tuple, fIsi_bl_list, fIsi_int_int, fIsi_int_bool, fIsi_int_str, fIsi_int_tuple, fIsi_int_list, fIsi_str_int, fIsi_str_bool, fIsi_str_str, fIsi_str_tuple, fIsi_str_list, fIsi_tup_int, fIsi_tup_bool, fIsi_tup_str, fIsi_tup_tuple, fIsi_tup_list, fIsi_lst_int, fIsi_lst_bool, fIsi_lst_str, fIsi_lst_tuple, fIsi_lst_list, isN, fIx_sy0, fIx_sy1, ite_tt, ite_ff]
  refine ⟨by simp, by simp, fun p hpn => ?_⟩
  refine ⟨fun k g m' => ∃ (xs : List D) (a b c d : Option D), g = [some x, some x, some (.box p), a, b, c, d] ∧ m' = mset m p (.lst (pairs xs)) ∧ pures? xs = true ∧ k = dsizes xs ∧ dsizes xs ≤ dsize x, ⟨_, [x], none, none, none, none, rfl, rfl, by simp [pures?, hp], rfl, by simp [dsizes]⟩, ?_⟩
  rintro k g m' ⟨xs, a, b, c, d, rfl, rfl, hpu, rfl, hle⟩
  have hmp : mset m p (.lst (pairs xs)) p = some (.lst (pairs xs)) := mset_same
  simp only [aSeq, aSet, aC, aVar, aOp, aTest, aTru, aAnd, aOr, aNot, aAndV, aOrV, aNotV, aIfE, aNil, aCons, aTup, aLst, aLstB, aUn, aCa, aSl, aNo, aPart, aM, aML, aRet, aRetN, aIf, aDo, aNext, aCont, aBrk, aAsg, aCall, aCallX, aMeth, aFld, aSetFld, aFldAug, aAug, aRaise, aMake, aYes, kName, kCons, kNil, kSub, nth, put, wipeD, asT_b, fAdd_i, fAdd_s, fAdd_t, fAdd_l, fSub_i, fLt_i, fLe_i, fGt_i, fGe_i, fMul_i, fMod_i, fFdiv_i, fPow_i, fNeg_i, fEq_i, fEq_s, fEq_b, fNe_i, fNe_s, fNe_b, fIn_s, fNi_s, fIx_t0, fIx_t1, fIx_t2, fIx_l0, fIx_l1, fSl_s, fSl_t, fSl_l, fLen_t, fLen_l, fInt_i, fAbs_i, fMax_i, fMin_i, fTuple_t, fTuple_l, fList_t, fList_l, fRepS_s, seqOf_t, seqOf_l, truD_b, truD_t, truD_l, kTup_t, fIsN_n, fIsi_non_int, fIsi_non_bool, fIsi_non_str, fIsi_non_tuple, fIsi_non_list, fIsi_bl_int, fIsi_bl_bool, fIsi_bl_str, fIsi_bl_tuple, fIsi_bl_list, fIsi_int_int, fIsi_int_bool, fIsi_int_str, fIsi_int_tuple, fIsi_int_list, fIsi_str_int, fIsi_str_bool, fIsi_str_str, fIsi_str_tuple, fIsi_str_list, fIsi_tup_int, fIsi_tup_bool, fIsi_tup_str, fIsi_tup_tuple, fIsi_tup_list, fIsi_lst_int, fIsi_lst_bool, fIsi_lst_str, fIsi_lst_tuple, fIsi_lst_list, isN, fIx_sy0, fIx_sy1, ite_tt, ite_ff, fLen_b hmp]
  by_cases hne : xs = []
  · subst hne
    rw [if_neg (by simp [pairs])]
    exact ⟨_, _, Fz.drop p, by rw [mdel_mset hpn]; exact hq⟩
  · obtain ⟨ini, y, rfl⟩ := ends_in hne
    have hlen : (0 : Int) < ((pairs (ini ++ [y])).length : Int) := by simp [pairs]
    rw [if_pos (decide_eq_true hlen)]
    have hpop : pairs (ini ++ [y]) = pairs ini ++ [.tup [y, y]] := by simp [pairs]
    rw [pures_app, Bool.and_eq_true_iff] at hpu
    rw [dsizes_app] at hle
    have hy : pure? y = true := by simpa [pures?] using hpu.2
    have hsy : dsizes [y] = dsize y := by simp [dsizes]
    have h1 : 1 ≤ dsize y := by cases y <;> simp [dsize]
    simp only [aSeq, aSet, aC, aVar, aOp, aTest, aTru, aAnd, aOr, aNot, aAndV, aOrV, aNotV, aIfE, aNil, aCons, aTup, aLst, aLstB, aUn, aCa, aSl, aNo, aPart, aM, aML, aRet, aRetN, aIf, aDo, aNext, aCont, aBrk, aAsg, aCall, aCallX, aMeth, aFld, aSetFld, aFldAug, aAug, aRaise, aMake, aYes, kName, kCons, kNil, kSub, nth, put, wipeD, asT_b, fAdd_i, fAdd_s, fAdd_t, fAdd_l, fSub_i, fLt_i, fLe_i, fGt_i, fGe_i, fMul_i, fMod_i, fFdiv_i, fPow_i, fNeg_i, fEq_i, fEq_s, fEq_b, fNe_i, fNe_s, fNe_b, fIn_s, fNi_s, fIx_t0, fIx_t1, fIx_t2, fIx_l0, fIx_l1, fSl_s, fSl_t, fSl_l, fLen_t, fLen_l, fInt_i, fAbs_i, fMax_i, fMin_i, fTuple_t, fTuple_l, fList_t, fList_l, fRepS_s, seqOf_t, seqOf_l, truD_b, truD_t, truD_l, kTup_t, fIsN_n, fIsi_non_int, fIsi_non_bool, fIsi_non_str, fIsi_non_tuple, fIsi_non_list, fIsi_bl_int, fIsi_bl_bool, fIsi_bl_str, fIsi_bl_tuple, fIsi_bl_list, fIsi_int_int, fIsi_int_bool, fIsi_int_str, fIsi_int_tuple, fIsi_int_list, fIsi_str_int, fIsi_str_bool, fIsi_str_str, fIsi_str_tuple, fIsi_str_list, fIsi_tup_int, fIsi_tup_bool, fIsi_tup_str, fIsi_tup_tuple, fIsi_tup_list, fIsi_lst_int, fIsi_lst_bool, fIsi_lst_str, fIsi_lst_tuple, fIsi_lst_list, isN, fIx_sy0, fIx_sy1, ite_tt, ite_ff, isL_b hmp, fPop_b hmp hpop, true_and]
    -- what stands at p behind this turn
    have last : ∀ (xs : List D) (e1 e2 e3 e4 : Option D) (m2 : Mu), m2 = mset m p (.lst (pairs xs)) → pures? xs = true → dsizes xs < dsizes (ini ++ [y]) → ∃ n', n' < dsizes (ini ++ [y]) ∧ ∃ (xs' : List D) (a b c d : Option D),
        [some x, some x, some (.box p), e1, e2, e3, e4] = [some x, some x, some (.box p), a, b, c, d] ∧ m2 = mset m p (.lst (pairs xs')) ∧ pures? xs' = true ∧ n' = dsizes xs' ∧ dsizes xs' ≤ dsize x := fun xs e1 e2 e3 e4 m2 h1 h2 h3 =>
      ⟨_, h3, xs, e1, e2, e3, e4, rfl, h1, h2, rfl, by rw [dsizes_app] at h3; omega⟩
    have small : dsizes ini < dsizes (ini ++ [y]) := by rw [dsizes_app]; omega
    rcases tyOf_pure (m := m) hy with ⟨ds, rfl⟩ | rfl | ⟨q, rfl⟩ | ⟨q, rfl⟩ | ⟨q, rfl⟩
    · simp only [aSeq, aSet, aC, aVar, aOp, aTest, aTru, aAnd, aOr, aNot, aAndV, aOrV, aNotV, aIfE, aNil, aCons, aTup, aLst, aLstB, aUn, aCa, aSl, aNo, aPart, aM, aML, aRet, aRetN, aIf, aDo, aNext, aCont, aBrk, aAsg, aCall, aCallX, aMeth, aFld, aSetFld, aFldAug, aAug, aRaise, aMake, aYes, kName, kCons, kNil, kSub, nth, put, wipeD, asT_b, fAdd_i, fAdd_s, fAdd_t, fAdd_l, fSub_i, fLt_i, fLe_i, fGt_i, fGe_i, fMul_i, fMod_i, fFdiv_i, fPow_i, fNeg_i, fEq_i, fEq_s, fEq_b, fNe_i, fNe_s, fNe_b, fIn_s, fNi_s, fIx_t0, fIx_t1, fIx_t2, fIx_l0, fIx_l1, fSl_s, fSl_t, fSl_l, fLen_t, fLen_l, fInt_i, fAbs_i, fMax_i, fMin_i, fTuple_t, fTuple_l, fList_t, fList_l, fRepS_s, seqOf_t, seqOf_l, truD_b, truD_t, truD_l, kTup_t, fIsN_n, fIsi_non_int, fIsi_non_bool, fIsi_non_str, fIsi_non_tuple, fIsi_non_list, fIsi_bl_int, fIsi_bl_bool, fIsi_bl_str, fIsi_bl_tuple, fIsi_bl_list, fIsi_int_int, fIsi_int_bool, fIsi_int_str, fIsi_int_tuple, fIsi_int_list, fIsi_str_int, fIsi_str_bool, fIsi_str_str, fIsi_str_tuple, fIsi_str_list, fIsi_tup_int, fIsi_tup_bool, fIsi_tup_str, fIsi_tup_tuple, fIsi_tup_list, fIsi_lst_int, fIsi_lst_bool, fIsi_lst_str, fIsi_lst_tuple, fIsi_lst_list, isN, fIx_sy0, fIx_sy1, ite_tt, ite_ff]
      refine cut_plain ?_
      simp only [aSeq, aSet, aC, aVar, aOp, aTest, aTru, aAnd, aOr, aNot, aAndV, aOrV, aNotV, aIfE, aNil, aCons, aTup, aLst, aLstB, aUn, aCa, aSl, aNo, aPart, aM, aML, aRet, aRetN, aIf, aDo, aNext, aCont, aBrk, aAsg, aCall, aCallX, aMeth, aFld, aSetFld, aFldAug, aAug, aRaise, aMake, aYes, kName, kCons, kNil, kSub, nth, put, wipeD, asT_b, fAdd_i, fAdd_s, fAdd_t, fAdd_l, fSub_i, fLt_i, fLe_i, fGt_i, fGe_i, fMul_i, fMod_i, fFdiv_i, fPow_i, fNeg_i, fEq_i, fEq_s, fEq_b, fNe_i, fNe_s, fNe_b, fIn_s, fNi_s, fIx_t0, fIx_t1, fIx_t2, fIx_l0, fIx_l1, fSl_s, fSl_t, fSl_l, fLen_t, fLen_l, fInt_i, fAbs_i, fMax_i, fMin_i, fTuple_t, fTuple_l, fList_t, fList_l, fRepS_s, seqOf_t, seqOf_l, truD_b, truD_t, truD_l, kTup_t, fIsN_n, fIsi_non_int, fIsi_non_bool, fIsi_non_str, fIsi_non_tuple, fIsi_non_list, fIsi_bl_int, fIsi_bl_bool, fIsi_bl_str, fIsi_bl_tuple, fIsi_bl_list, fIsi_int_int, fIsi_int_bool, fIsi_int_str, fIsi_int_tuple, fIsi_int_list, fIsi_str_int, fIsi_str_bool, fIsi_str_str, fIsi_str_tuple, fIsi_str_list, fIsi_tup_int, fIsi_tup_bool, fIsi_tup_str, fIsi_tup_tuple, fIsi_tup_list, fIsi_lst_int, fIsi_lst_bool, fIsi_lst_str, fIsi_lst_tuple, fIsi_lst_list, isN, fIx_sy0, fIx_sy1, ite_tt, ite_ff]
      simp only [decide_true, Bool.not_true, ite_ff, aForR, aCons, aNil, aVar, nth, aCa, fLen_t]
      have hds : pures? ds = true := hy
      have hdz : dsize (.tup ds) = dsizes ds + 1 := rfl
      have hdl := len_dsizes ds
      refine ⟨0, ds.length, rfl, fun _ => rfl, by omega, fun i g m' => i ≤ ds.length ∧ ∃ e1, g = [some x, some x, some (.box p), some (.tup [.tup ds, .tup ds]), some (.tup ds), some (.tup ds), e1] ∧ m' = mset m p (.lst (pairs (ini ++ ds.take i))), ⟨Nat.zero_le _, _, rfl, ?_⟩, ?_, ?_⟩
      · rw [mset_mset]
        simp
      · rintro i g m' hi ⟨hi2, e1, rfl, rfl⟩
        have hlt : i < ds.length := by omega
        have hat : atI ds ((0 : Int) + (i : Int)) = some ds[i] := by
          rw [Int.zero_add]
          exact atI_nn (List.getElem?_eq_getElem hlt)
        simp only [aSeq, aSet, aC, aVar, aOp, aTest, aTru, aAnd, aOr, aNot, aAndV, aOrV, aNotV, aIfE, aNil, aCons, aTup, aLst, aLstB, aUn, aCa, aSl, aNo, aPart, aM, aML, aRet, aRetN, aIf, aDo, aNext, aCont, aBrk, aAsg, aCall, aCallX, aMeth, aFld, aSetFld, aFldAug, aAug, aRaise, aMake, aYes, kName, kCons, kNil, kSub, nth, put, wipeD, asT_b, fAdd_i, fAdd_s, fAdd_t, fAdd_l, fSub_i, fLt_i, fLe_i, fGt_i, fGe_i, fMul_i, fMod_i, fFdiv_i, fPow_i, fNeg_i, fEq_i, fEq_s, fEq_b, fNe_i, fNe_s, fNe_b, fIn_s, fNi_s, fIx_t0, fIx_t1, fIx_t2, fIx_l0, fIx_l1, fSl_s, fSl_t, fSl_l, fLen_t, fLen_l, fInt_i, fAbs_i, fMax_i, fMin_i, fTuple_t, fTuple_l, fList_t, fList_l, fRepS_s, seqOf_t, seqOf_l, truD_b, truD_t, truD_l, kTup_t, fIsN_n, fIsi_non_int, fIsi_non_bool, fIsi_non_str, fIsi_non_tuple, fIsi_non_list, fIsi_bl_int, fIsi_bl_bool, fIsi_bl_str, fIsi_bl_tuple, fIsi_bl_list, fIsi_int_int, fIsi_int_bool, fIsi_int_str, fIsi_int_tuple, fIsi_int_list, fIsi_str_int, fIsi_str_bool, fIsi_str_str, fIsi_str_tuple, fIsi_str_list, fIsi_tup_int, fIsi_tup_bool, fIsi_tup_str, fIsi_tup_tuple, fIsi_tup_list, fIsi_lst_int, fIsi_lst_bool, fIsi_lst_str, fIsi_lst_tuple, fIsi_lst_list, isN, fIx_sy0, fIx_sy1, ite_tt, ite_ff, isL_b mset_same, fIx_t hat, fApp_b mset_same, true_and]
        refine ⟨by simp, ?_, hlt, _, rfl, ?_⟩
        · have h2 := len_dsizes ini
          have h3 : (pairs (ini ++ ds.take i)).length = ini.length + min i ds.length := by
            unfold pairs
            rw [List.length_map, List.length_append, List.length_take]
          omega
        · rw [mset_mset]
          have e : pairs (ini ++ ds.take i) ++ [.tup [ds[i], ds[i]]] = pairs (ini ++ ds.take (i + 1)) := by
            rw [List.take_succ, List.getElem?_eq_getElem hlt]
            unfold pairs
            rw [List.map_append, List.map_append, List.map_append, List.append_assoc]
            rfl
          rw [e]
      · rintro g m' ⟨hi2, e1, rfl, rfl⟩
        have e : ((ds.length : Int) - 0).toNat = ds.length := by omega
        rw [e, List.take_length]
        refine last (ini ++ ds) _ _ _ _ _ rfl ?_ ?_
        · rw [pures_app, hpu.1, hds] <;> rfl
        · rw [dsizes_app, dsizes_app, hsy, hdz]
          omega
    · simp only [aSeq, aSet, aC, aVar, aOp, aTest, aTru, aAnd, aOr, aNot, aAndV, aOrV, aNotV, aIfE, aNil, aCons, aTup, aLst, aLstB, aUn, aCa, aSl, aNo, aPart, aM, aML, aRet, aRetN, aIf, aDo, aNext, aCont, aBrk, aAsg, aCall, aCallX, aMeth, aFld, aSetFld, aFldAug, aAug, aRaise, aMake, aYes, kName, kCons, kNil, kSub, nth, put, wipeD, asT_b, fAdd_i, fAdd_s, fAdd_t, fAdd_l, fSub_i, fLt_i, fLe_i, fGt_i, fGe_i, fMul_i, fMod_i, fFdiv_i, fPow_i, fNeg_i, fEq_i, fEq_s, fEq_b, fNe_i, fNe_s, fNe_b, fIn_s, fNi_s, fIx_t0, fIx_t1, fIx_t2, fIx_l0, fIx_l1, fSl_s, fSl_t, fSl_l, fLen_t, fLen_l, fInt_i, fAbs_i, fMax_i, fMin_i, fTuple_t, fTuple_l, fList_t, fList_l, fRepS_s, seqOf_t, seqOf_l, truD_b, truD_t, truD_l, kTup_t, fIsN_n, fIsi_non_int, fIsi_non_bool, fIsi_non_str, fIsi_non_tuple, fIsi_non_list, fIsi_bl_int, fIsi_bl_bool, fIsi_bl_str, fIsi_bl_tuple, fIsi_bl_list, fIsi_int_int, fIsi_int_bool, fIsi_int_str, fIsi_int_tuple, fIsi_int_list, fIsi_str_int, fIsi_str_bool, fIsi_str_str, fIsi_str_tuple, fIsi_str_list, fIsi_tup_int, fIsi_tup_bool, fIsi_tup_str, fIsi_tup_tuple, fIsi_tup_list, fIsi_lst_int, fIsi_lst_bool, fIsi_lst_str, fIsi_lst_tuple, fIsi_lst_list, isN, fIx_sy0, fIx_sy1, ite_tt, ite_ff]
      simp only [reduceCtorEq, decide_true, decide_false, if_false, if_true, Bool.not_true, ite_ff, ite_tt, Bool.false_eq_true]
      exact last ini _ _ _ _ _ (by rw [mset_mset]) hpu.1 small
    · simp only [aSeq, aSet, aC, aVar, aOp, aTest, aTru, aAnd, aOr, aNot, aAndV, aOrV, aNotV, aIfE, aNil, aCons, aTup, aLst, aLstB, aUn, aCa, aSl, aNo, aPart, aM, aML, aRet, aRetN, aIf, aDo, aNext, aCont, aBrk, aAsg, aCall, aCallX, aMeth, aFld, aSetFld, aFldAug, aAug, aRaise, aMake, aYes, kName, kCons, kNil, kSub, nth, put, wipeD, asT_b, fAdd_i, fAdd_s, fAdd_t, fAdd_l, fSub_i, fLt_i, fLe_i, fGt_i, fGe_i, fMul_i, fMod_i, fFdiv_i, fPow_i, fNeg_i, fEq_i, fEq_s, fEq_b, fNe_i, fNe_s, fNe_b, fIn_s, fNi_s, fIx_t0, fIx_t1, fIx_t2, fIx_l0, fIx_l1, fSl_s, fSl_t, fSl_l, fLen_t, fLen_l, fInt_i, fAbs_i, fMax_i, fMin_i, fTuple_t, fTuple_l, fList_t, fList_l, fRepS_s, seqOf_t, seqOf_l, truD_b, truD_t, truD_l, kTup_t, fIsN_n, fIsi_non_int, fIsi_non_bool, fIsi_non_str, fIsi_non_tuple, fIsi_non_list, fIsi_bl_int, fIsi_bl_bool, fIsi_bl_str, fIsi_bl_tuple, fIsi_bl_list, fIsi_int_int, fIsi_int_bool, fIsi_int_str, fIsi_int_tuple, fIsi_int_list, fIsi_str_int, fIsi_str_bool, fIsi_str_str, fIsi_str_tuple, fIsi_str_list, fIsi_tup_int, fIsi_tup_bool, fIsi_tup_str, fIsi_tup_tuple, fIsi_tup_list, fIsi_lst_int, fIsi_lst_bool, fIsi_lst_str, fIsi_lst_tuple, fIsi_lst_list, isN, fIx_sy0, fIx_sy1, ite_tt, ite_ff]
      simp only [reduceCtorEq, decide_true, decide_false, if_false, if_true, Bool.not_true, ite_ff, ite_tt, Bool.false_eq_true]
      exact last ini _ _ _ _ _ (by rw [mset_mset]) hpu.1 small
    · simp only [aSeq, aSet, aC, aVar, aOp, aTest, aTru, aAnd, aOr, aNot, aAndV, aOrV, aNotV, aIfE, aNil, aCons, aTup, aLst, aLstB, aUn, aCa, aSl, aNo, aPart, aM, aML, aRet, aRetN, aIf, aDo, aNext, aCont, aBrk, aAsg, aCall, aCallX, aMeth, aFld, aSetFld, aFldAug, aAug, aRaise, aMake, aYes, kName, kCons, kNil, kSub, nth, put, wipeD, asT_b, fAdd_i, fAdd_s, fAdd_t, fAdd_l, fSub_i, fLt_i, fLe_i, fGt_i, fGe_i, fMul_i, fMod_i, fFdiv_i, fPow_i, fNeg_i, fEq_i, fEq_s, fEq_b, fNe_i, fNe_s, fNe_b, fIn_s, fNi_s, fIx_t0, fIx_t1, fIx_t2, fIx_l0, fIx_l1, fSl_s, fSl_t, fSl_l, fLen_t, fLen_l, fInt_i, fAbs_i, fMax_i, fMin_i, fTuple_t, fTuple_l, fList_t, fList_l, fRepS_s, seqOf_t, seqOf_l, truD_b, truD_t, truD_l, kTup_t, fIsN_n, fIsi_non_int, fIsi_non_bool, fIsi_non_str, fIsi_non_tuple, fIsi_non_list, fIsi_bl_int, fIsi_bl_bool, fIsi_bl_str, fIsi_bl_tuple, fIsi_bl_list, fIsi_int_int, fIsi_int_bool, fIsi_int_str, fIsi_int_tuple, fIsi_int_list, fIsi_str_int, fIsi_str_bool, fIsi_str_str, fIsi_str_tuple, fIsi_str_list, fIsi_tup_int, fIsi_tup_bool, fIsi_tup_str, fIsi_tup_tuple, fIsi_tup_list, fIsi_lst_int, fIsi_lst_bool, fIsi_lst_str, fIsi_lst_tuple, fIsi_lst_list, isN, fIx_sy0, fIx_sy1, ite_tt, ite_ff]
      simp only [reduceCtorEq, decide_true, decide_false, if_false, if_true, Bool.not_true, ite_ff, ite_tt, Bool.false_eq_true]
      exact last ini _ _ _ _ _ (by rw [mset_mset]) hpu.1 small
    · simp only [aSeq, aSet, aC, aVar, aOp, aTest, aTru, aAnd, aOr, aNot, aAndV, aOrV, aNotV, aIfE, aNil, aCons, aTup, aLst, aLstB, aUn, aCa, aSl, aNo, aPart, aM, aML, aRet, aRetN, aIf, aDo, aNext, aCont, aBrk, aAsg, aCall, aCallX, aMeth, aFld, aSetFld, aFldAug, aAug, aRaise, aMake, aYes, kName, kCons, kNil, kSub, nth, put, wipeD, asT_b, fAdd_i, fAdd_s, fAdd_t, fAdd_l, fSub_i, fLt_i, fLe_i, fGt_i, fGe_i, fMul_i, fMod_i, fFdiv_i, fPow_i, fNeg_i, fEq_i, fEq_s, fEq_b, fNe_i, fNe_s, fNe_b, fIn_s, fNi_s, fIx_t0, fIx_t1, fIx_t2, fIx_l0, fIx_l1, fSl_s, fSl_t, fSl_l, fLen_t, fLen_l, fInt_i, fAbs_i, fMax_i, fMin_i, fTuple_t, fTuple_l, fList_t, fList_l, fRepS_s, seqOf_t, seqOf_l, truD_b, truD_t, truD_l, kTup_t, fIsN_n, fIsi_non_int, fIsi_non_bool, fIsi_non_str, fIsi_non_tuple, fIsi_non_list, fIsi_bl_int, fIsi_bl_bool, fIsi_bl_str, fIsi_bl_tuple, fIsi_bl_list, fIsi_int_int, fIsi_int_bool, fIsi_int_str, fIsi_int_tuple, fIsi_int_list, fIsi_str_int, fIsi_str_bool, fIsi_str_str, fIsi_str_tuple, fIsi_str_list, fIsi_tup_int, fIsi_tup_bool, fIsi_tup_str, fIsi_tup_tuple, fIsi_tup_list, fIsi_lst_int, fIsi_lst_bool, fIsi_lst_str, fIsi_lst_tuple, fIsi_lst_list, isN, fIx_sy0, fIx_sy1, ite_tt, ite_ff]
      simp only [reduceCtorEq, decide_true, decide_false, if_false, if_true, Bool.not_true, ite_ff, ite_tt, Bool.false_eq_true]
      exact last ini _ _ _ _ _ (by rw [mset_mset]) hpu.1 small
end AL
set_option maxHeartbeats 2000000
namespace AL
open PySem L2 Evl
/-! ### reading, as numbers of signs -/
inductive Rs where
  | ok (F : List Sy)
  | err (k : Nat)
def cnt (row : List Sy) (i : Nat) : Nat := match row[i]? with
  | some s => s.n
  | none => 0
def wl (row : List Sy) (i : Nat) : Nat := match row[i]? with
  | some s => s.w.length
  | none => 0
def modS (f : Sy → Sy) (row : List Sy) (i : Nat) : List Sy := match row[i]? with
  | some s => row.set i (f s)
  | none => row
def incS (s : Sy) : Sy := ⟨s.w, s.n + 1⟩
def oneS (s : Sy) : Sy := ⟨s.w, 1⟩
def addS (c : Nat) (s : Sy) : Sy := ⟨s.w ++ [c], s.n⟩
def nxt (h : Bool) (c ph : Nat) (row : List Sy) (st : List Nat) : Option (Nat × List Sy × List Nat) :=
  if ph = 0 then
    if low c then some (1, row ++ [⟨[c], 0⟩], st)
    else if c = 46 ∨ (h = true ∧ c = 63) then some (2, row ++ [⟨[c], 0⟩], st)
    else none
  else if ph = 1 ∧ wsg c ∧ wl row (row.length - 1) < 16 then some (1, modS (addS c) row (row.length - 1), st)
  else if ph = 1 ∧ c = 40 then some (0, modS oneS row (row.length - 1), (row.length - 1) :: st)
  else match st with
    | [] => none
    | i :: st' => if c = 44 ∧ cnt row i < 4 then some (0, modS incS row i, i :: st') else if c = 41 then some (2, row, st') else none
def rdm (h : Bool) : List Nat → Nat → List Sy → List Nat → Nat → Rs
  | [], ph, row, st, k => if ph = 0 ∨ st ≠ [] then .err k else .ok row
  | c :: t, ph, row, st, k => match nxt h c ph row st with
    | none => .err k
    | some (ph', row', st') => rdm h t ph' row' st' (k + 1)
theorem modS_len {f : Sy → Sy} {row : List Sy} {i : Nat} : (modS f row i).length = row.length := by
  unfold modS
  split
  · rw [List.length_set]
  · rfl
theorem modS_same {f : Sy → Sy} {row : List Sy} {i : Nat} {s : Sy} (h : row[i]? = some s) : (modS f row i)[i]? = some (f s) := by
  unfold modS
  rw [h]
  have := (List.getElem?_eq_some_iff.mp h).1
  simp [this]
theorem modS_ne {f : Sy → Sy} {row : List Sy} {i j : Nat} (n : j ≠ i) : (modS f row i)[j]? = row[j]? := by
  unfold modS
  split
  · rw [List.getElem?_set_ne (Ne.symm n)]
  · rfl
theorem cnt_of {row : List Sy} {i : Nat} {s : Sy} (h : row[i]? = some s) : cnt row i = s.n := by
  unfold cnt
  rw [h]
/-- what is open is in order, and a word that still grows has no parts -/
structure Iv (row : List Sy) (st : List Nat) (ph : Nat) : Prop where
  lt : ∀ i ∈ st, i < row.length ∧ (ph = 1 → i + 1 ≠ row.length)
  nd : st.Nodup
  la : ph = 1 → ∃ s, row[row.length - 1]? = some s ∧ s.n = 0
  ph : ph ≤ 2
theorem lt_of {row : List Sy} {i : Nat} {s : Sy} (h : row[i]? = some s) : i < row.length := (List.getElem?_eq_some_iff.mp h).1
theorem nxt_iv {h : Bool} {c ph ph' : Nat} {row row' : List Sy} {st st' : List Nat} (I : Iv row st ph) (e : nxt h c ph row st = some (ph', row', st')) : Iv row' st' ph' ∧ row'.length ≤ row.length + 1 ∧ st'.length ≤ st.length + 1 := by
  unfold nxt at e
  split at e
  · split at e
    · cases e
      refine ⟨⟨fun i hi => ?_, I.nd, fun _ => ⟨⟨[c], 0⟩, ?_, rfl⟩, by decide⟩, ?_⟩
      · have := (I.lt i hi).1
        rw [List.length_append, List.length_singleton]
        omega
      · simp
      · simp
    · split at e
      · cases e
        refine ⟨⟨fun i hi => ?_, I.nd, fun z => (by cases z), by decide⟩, ?_⟩
        · have := (I.lt i hi).1
          rw [List.length_append, List.length_singleton]
          exact ⟨by omega, fun z => (by cases z)⟩
        · simp
      · cases e
  · split at e
    · rename_i h0 h1
      cases e
      obtain ⟨s, hs, h0⟩ := I.la h1.1
      refine ⟨⟨fun i hi => ?_, I.nd, fun _ => ?_, by decide⟩, ?_, Nat.le_succ _⟩
      · rw [modS_len]
        exact ⟨(I.lt i hi).1, fun _ => (I.lt i hi).2 h1.1⟩
      · rw [modS_len]
        exact ⟨_, modS_same hs, h0⟩
      · rw [modS_len]
        exact Nat.le_succ _
    · split at e
      · rename_i h0 h1 h2
        cases e
        obtain ⟨s, hs, h0⟩ := I.la h2.1
        have := lt_of hs
        refine ⟨⟨fun i hi => ?_, ?_, fun z => (by cases z), by decide⟩, ?_, ?_⟩
        · rw [modS_len]
          refine ⟨?_, fun z => (by cases z)⟩
          rcases List.mem_cons.mp hi with rfl | hi
          · exact this
          · exact (I.lt i hi).1
        · refine List.nodup_cons.mpr ⟨fun hm => ?_, I.nd⟩
          exact (I.lt _ hm).2 h2.1 (by omega)
        · rw [modS_len]
          exact Nat.le_succ _
        · simp
      · split at e
        · cases e
        · rename_i i st0
          split at e
          · cases e
            refine ⟨⟨fun j hj => ?_, I.nd, fun z => (by cases z), by decide⟩, ?_, by simp⟩
            · rw [modS_len]
              exact ⟨(I.lt j hj).1, fun z => (by cases z)⟩
            · rw [modS_len]
              exact Nat.le_succ _
          · split at e
            · cases e
              refine ⟨⟨fun j hj => ⟨(I.lt j (List.mem_cons_of_mem _ hj)).1, fun z => (by cases z)⟩, (List.nodup_cons.mp I.nd).2, fun z => (by cases z), by decide⟩, Nat.le_succ _, ?_⟩
              simp
              omega
            · cases e
/-! ### showing -/
def cl : List Nat → List Nat × List Nat
  | [] => ([], [])
  | 0 :: r => ([44], 0 :: r)
  | 1 :: r => (41 :: (cl r).1, (cl r).2)
  | (n + 2) :: r => ([44], (n + 1) :: r)
def sh : List Sy → List Nat → List Nat
  | [], _ => []
  | s :: r, ms => s.w ++ (if 0 < s.n then 40 :: sh r (s.n :: ms) else (cl ms).1 ++ sh r (cl ms).2)
def aft (r : List Sy) (ms : List Nat) : List Nat := (cl ms).1 ++ sh r (cl ms).2
theorem sh_cons {s : Sy} {r : List Sy} {ms : List Nat} : sh (s :: r) ms = s.w ++ (if 0 < s.n then 40 :: sh r (s.n :: ms) else aft r ms) := rfl
def msOf (F row : List Sy) (st : List Nat) : List Nat := st.map fun i => cnt F i + 1 - cnt row i
/-- what has been read of F -/
structure Rl (F row : List Sy) (st : List Nat) (ph : Nat) : Prop where
  len : row.length ≤ F.length
  at_ : ∀ i s, row[i]? = some s → ∃ s', F[i]? = some s' ∧ s.n ≤ s'.n ∧ ((i + 1 = row.length → ph ≠ 1) → s'.w = s.w ∧ (i ∉ st → s'.n = s.n))
def Txt (F row : List Sy) (st : List Nat) (ph : Nat) (t : List Nat) : Prop :=
  (ph = 0 → t = sh (F.drop row.length) (msOf F row st)) ∧ (ph = 2 → t = aft (F.drop row.length) (msOf F row st)) ∧
  (ph = 1 → ∃ s s' u, row[row.length - 1]? = some s ∧ F[row.length - 1]? = some s' ∧ s'.w = s.w ++ u ∧ t = u ++ (if 0 < s'.n then 40 :: sh (F.drop row.length) (s'.n :: msOf F row st) else aft (F.drop row.length) (msOf F row st)))
theorem msOf_congr {F row row' : List Sy} {st : List Nat} (h : ∀ i ∈ st, cnt row i = cnt row' i) : msOf F row st = msOf F row' st := by
  unfold msOf
  exact List.map_congr_left fun i hi => by rw [h i hi]
theorem drop_get {α : Type} {F : List α} {n : Nat} {s : α} (h : F[n]? = some s) : F.drop n = s :: F.drop (n + 1) := by
  have hl := (List.getElem?_eq_some_iff.mp h).1
  rw [List.drop_eq_getElem_cons hl, (List.getElem?_eq_some_iff.mp h).2]
theorem app_get {α : Type} {r : List α} {s : α} {i : Nat} (h : i < r.length) : (r ++ [s])[i]? = r[i]? := List.getElem?_append_left h
theorem app_last {α : Type} {r : List α} {s : α} : (r ++ [s])[r.length]? = some s := by simp
theorem cnt_app {r : List Sy} {s : Sy} {i : Nat} (h : i < r.length) : cnt (r ++ [s]) i = cnt r i := by
  unfold cnt
  rw [app_get h]
theorem cnt_mod {f : Sy → Sy} {row : List Sy} {i j : Nat} (h : j ≠ i) : cnt (modS f row i) j = cnt row j := by
  unfold cnt
  rw [modS_ne h]
/-- what is accepted is what is shown -/
theorem rdm_ok {h : Bool} {F : List Sy} : ∀ (t : List Nat) (ph : Nat) (row : List Sy) (st : List Nat) (k : Nat), Iv row st ph → rdm h t ph row st k = .ok F → Rl F row st ph ∧ Txt F row st ph t := by
  intro t
  induction t with
  | nil =>
    intro ph row st k I e
    unfold rdm at e
    split at e
    · cases e
    · rename_i hn
      cases e
      have h0 : ph ≠ 0 := fun z => hn (.inl z)
      have h1 : st = [] := Classical.byContradiction fun z => hn (.inr z)
      subst h1
      refine ⟨⟨Nat.le_refl _, fun i s hs => ⟨s, hs, Nat.le_refl _, fun _ => ⟨rfl, fun _ => rfl⟩⟩⟩, fun z => absurd z h0, fun _ => ?_, fun z => ?_⟩
      · rw [List.drop_length]
        rfl
      · obtain ⟨s, hs, hz⟩ := I.la z
        refine ⟨s, s, [], hs, hs, by simp, ?_⟩
        rw [hz, List.drop_length]
        rfl
  | cons c t ih =>
    intro ph row st k I e
    unfold rdm at e
    cases e0 : nxt h c ph row st with
    | none =>
      rw [e0] at e
      cases e
    | some z =>
      obtain ⟨ph', row', st'⟩ := z
      rw [e0] at e
      have e : rdm h t ph' row' st' (k + 1) = .ok F := e
      obtain ⟨I', _⟩ := nxt_iv I e0
      obtain ⟨rl, T⟩ := ih ph' row' st' (k + 1) I' e
      -- what stands in F where a word of the row stands
      unfold nxt at e0
      split at e0
      · rename_i p0
        subst p0
        split at e0
        · cases e0
          obtain ⟨s, s', u, hs, hs', hw, ht⟩ := T.2.2 rfl
          rw [List.length_append, List.length_singleton, Nat.add_sub_cancel] at hs hs'
          rw [List.length_append, List.length_singleton] at ht
          rw [app_last] at hs
          cases hs
          have rlr : Rl F row st 0 := ⟨Nat.le_of_lt (lt_of hs'), fun i q hq => by
            have hl := lt_of hq
            obtain ⟨q', h1, h2, h3⟩ := rl.at_ i q (by rw [app_get hl]; exact hq)
            refine ⟨q', h1, h2, fun _ => h3 fun z => ?_⟩
            rw [List.length_append, List.length_singleton] at z
            omega⟩
          refine ⟨rlr, fun _ => ?_, fun z => (by cases z), fun z => (by cases z)⟩
          rw [drop_get hs', sh_cons, hw, ht, msOf_congr (row' := row) fun i hi => cnt_app (I.lt i hi).1]
          simp
        · split at e0
          · cases e0
            have hl : row.length < F.length := by
              have := rl.len
              rw [List.length_append, List.length_singleton] at this
              omega
            obtain ⟨q', h1, h2, h3⟩ := rl.at_ row.length ⟨[c], 0⟩ app_last
            obtain ⟨h4, h5⟩ := h3 fun _ => by decide
            have h6 : q'.n = 0 := h5 fun hm => absurd (I.lt _ hm).1 (by omega)
            have ht := T.2.1 rfl
            rw [List.length_append, List.length_singleton] at ht
            have rlr : Rl F row st 0 := ⟨Nat.le_of_lt hl, fun i q hq => by
              have hl := lt_of hq
              obtain ⟨q', h1, h2, h3⟩ := rl.at_ i q (by rw [app_get hl]; exact hq)
              exact ⟨q', h1, h2, fun _ => h3 fun _ => by decide⟩⟩
            refine ⟨rlr, fun _ => ?_, fun z => (by cases z), fun z => (by cases z)⟩
            rw [drop_get h1, sh_cons, h4, h6, ht, msOf_congr (row' := row) fun i hi => cnt_app (I.lt i hi).1]
            rfl
          · cases e0
      · rename_i p0
        split at e0
        · rename_i hw
          cases e0
          obtain ⟨p1, hws, hlen⟩ := hw
          subst p1
          obtain ⟨s0, hs0, hn0⟩ := I.la rfl
          have hl0 := lt_of hs0
          obtain ⟨s, s', u, hs, hs', hww, ht⟩ := T.2.2 rfl
          rw [modS_len] at hs hs' ht
          rw [modS_same hs0] at hs
          cases hs
          have rlr : Rl F row st 1 := ⟨by have := rl.len; rw [modS_len] at this; exact this, fun i q hq => by
            by_cases z : i = row.length - 1
            · subst z
              rw [hs0] at hq
              cases hq
              exact ⟨s', hs', by omega, fun w => absurd rfl (w (by omega))⟩
            · obtain ⟨q', h1, h2, h3⟩ := rl.at_ i q (by rw [modS_ne z]; exact hq)
              refine ⟨q', h1, h2, fun _ => h3 fun y => ?_⟩
              rw [modS_len] at y
              omega⟩
          refine ⟨rlr, fun z => (by cases z), fun z => (by cases z), fun _ => ⟨s0, s', c :: u, hs0, hs', ?_, ?_⟩⟩
          · rw [hww]
            simp [addS]
          · rw [ht, msOf_congr (row' := row) fun i hi => cnt_mod (fun z => (I.lt i hi).2 rfl (by omega))]
            rfl
        · split at e0
          · rename_i hw
            cases e0
            obtain ⟨p1, rfl⟩ := hw
            subst p1
            obtain ⟨s0, hs0, hn0⟩ := I.la rfl
            have hl0 := lt_of hs0
            have ht := T.1 rfl
            rw [modS_len] at ht
            obtain ⟨s', h1, h2, h3⟩ := rl.at_ (row.length - 1) (oneS s0) (modS_same hs0)
            obtain ⟨h4, _⟩ := h3 fun _ => by decide
            have h2 : 1 ≤ s'.n := h2
            have rlr : Rl F row st 1 := ⟨by have := rl.len; rw [modS_len] at this; exact this, fun i q hq => by
              by_cases z : i = row.length - 1
              · subst z
                rw [hs0] at hq
                cases hq
                exact ⟨s', h1, by omega, fun w => absurd rfl (w (by omega))⟩
              · obtain ⟨q', g1, g2, g3⟩ := rl.at_ i q (by rw [modS_ne z]; exact hq)
                refine ⟨q', g1, g2, fun _ => ?_⟩
                obtain ⟨g4, g5⟩ := g3 fun _ => by decide
                exact ⟨g4, fun hm => g5 fun y => (List.mem_cons.mp y).elim z hm⟩⟩
            refine ⟨rlr, fun z => (by cases z), fun z => (by cases z), fun _ => ⟨s0, s', [], hs0, h1, ?_, ?_⟩⟩
            · rw [h4]
              simp [oneS]
            · rw [if_pos (by omega), ht]
              have e1 : msOf F (modS oneS row (row.length - 1)) ((row.length - 1) :: st) = s'.n :: msOf F row st := by
                show (cnt F (row.length - 1) + 1 - cnt (modS oneS row (row.length - 1)) (row.length - 1)) :: msOf F (modS oneS row (row.length - 1)) st = _
                rw [cnt_of h1, cnt_of (modS_same hs0), msOf_congr (row' := row) (st := st) fun j hj => cnt_mod (fun z => (I.lt j hj).2 rfl (by omega))]
                rfl
              rw [e1]
              rfl
          · -- a comma or a bracket: what holds in the phases 1 and 2
            rename_i n1 n2
            have key : Rl F row st 2 ∧ c :: t = aft (F.drop row.length) (msOf F row st) := by
              cases st with
              | nil => cases e0
              | cons i st0 =>
                have e0 : (if c = 44 ∧ cnt row i < 4 then some (0, modS incS row i, i :: st0) else if c = 41 then some (2, row, st0) else none) = some (ph', row', st') := e0
                obtain ⟨hi, hi2⟩ := I.lt i List.mem_cons_self
                have hnd := List.nodup_cons.mp I.nd
                have hs0 := List.getElem?_eq_getElem hi
                split at e0
                · rename_i hc
                  cases e0
                  obtain ⟨rfl, h4⟩ := hc
                  have ht := T.1 rfl
                  rw [modS_len] at ht
                  obtain ⟨s', h1, h2, h3⟩ := rl.at_ i (incS row[i]) (modS_same hs0)
                  have h2 : row[i].n + 1 ≤ s'.n := h2
                  obtain ⟨h4', _⟩ := h3 fun _ => by decide
                  refine ⟨⟨by have := rl.len; rw [modS_len] at this; exact this, fun j q hq => ?_⟩, ?_⟩
                  · by_cases z : j = i
                    · subst z
                      rw [hs0] at hq
                      cases hq
                      exact ⟨s', h1, by omega, fun _ => ⟨h4', fun hm => absurd List.mem_cons_self hm⟩⟩
                    · obtain ⟨q', g1, g2, g3⟩ := rl.at_ j q (by rw [modS_ne z]; exact hq)
                      exact ⟨q', g1, g2, fun _ => g3 fun _ => by decide⟩
                  · have e1 : msOf F (modS incS row i) (i :: st0) = (s'.n - row[i].n) :: msOf F row st0 := by
                      show (cnt F i + 1 - cnt (modS incS row i) i) :: msOf F (modS incS row i) st0 = _
                      rw [cnt_of h1, cnt_of (modS_same hs0), msOf_congr (row' := row) fun j hj => cnt_mod (fun z => hnd.1 (by rw [← z]; exact hj))]
                      show (s'.n + 1 - (row[i].n + 1)) :: _ = _
                      rw [Nat.add_sub_add_right]
                    have e2 : msOf F row (i :: st0) = (s'.n - row[i].n - 1 + 2) :: msOf F row st0 := by
                      show (cnt F i + 1 - cnt row i) :: msOf F row st0 = _
                      rw [cnt_of h1, cnt_of hs0]
                      congr 1
                      omega
                    rw [ht, e1, e2]
                    have e3 : s'.n - row[i].n = s'.n - row[i].n - 1 + 1 := by omega
                    rw [e3]
                    rfl
                · split at e0
                  · rename_i hc
                    subst hc
                    cases e0
                    have ht := T.2.1 rfl
                    obtain ⟨s', h1, h2, h3⟩ := rl.at_ i row[i] hs0
                    obtain ⟨h4, h5⟩ := h3 fun _ => by decide
                    have h6 := h5 hnd.1
                    refine ⟨⟨rl.len, fun j q hq => ?_⟩, ?_⟩
                    · obtain ⟨q', g1, g2, g3⟩ := rl.at_ j q hq
                      refine ⟨q', g1, g2, fun _ => ?_⟩
                      obtain ⟨g4, g5⟩ := g3 fun _ => by decide
                      exact ⟨g4, fun hm => g5 fun y => hm (List.mem_cons_of_mem _ y)⟩
                    · have e2 : msOf F row (i :: st') = 1 :: msOf F row st' := by
                        show (cnt F i + 1 - cnt row i) :: msOf F row st' = _
                        rw [cnt_of h1, cnt_of hs0, h6]
                        congr 1
                        omega
                      rw [e2, ht]
                      rfl
                  · cases e0
            have hph := I.ph
            refine ⟨⟨key.1.len, fun i q hq => ?_⟩, fun z => absurd z p0, fun _ => key.2, fun p1 => ?_⟩
            · obtain ⟨q', g1, g2, g3⟩ := key.1.at_ i q hq
              exact ⟨q', g1, g2, fun _ => g3 fun _ => by decide⟩
            · subst p1
              obtain ⟨s0, hs0, hn0⟩ := I.la rfl
              have hl0 := lt_of hs0
              obtain ⟨s', h1, h2, h3⟩ := key.1.at_ _ s0 hs0
              obtain ⟨h4, h5⟩ := h3 fun _ => by decide
              have h6 := h5 fun hm => (I.lt _ hm).2 rfl (by omega)
              refine ⟨s0, s', [], hs0, h1, by rw [h4]; simp, ?_⟩
              rw [h6, hn0]
              exact key.2
theorem rdm_shown {h : Bool} {F : List Sy} {t : List Nat} {k : Nat} (e : rdm h t 0 [] [] k = .ok F) : t = sh F [] := by
  have I : Iv [] [] 0 := ⟨fun _ z => (by cases z), List.nodup_nil, fun z => (by cases z), by decide⟩
  have := (rdm_ok t 0 [] [] k I e).2.1 rfl
  exact this
end AL
set_option maxHeartbeats 2000000
namespace AL
open PySem L2 Evl
theorem nxt_row {h : Bool} {c ph ph' : Nat} {row row' : List Sy} {st st' : List Nat} (e : nxt h c ph row st = some (ph', row', st')) : row'.length ≤ row.length + 1 := by
  unfold nxt at e
  repeat' split at e
  all_goals first | (cases e; done) | (cases e; first | (rw [modS_len]; exact Nat.le_succ _) | (rw [List.length_append]; exact Nat.le_refl _) | exact Nat.le_succ _)
theorem rdm_len {h : Bool} {F : List Sy} : ∀ (t : List Nat) (ph : Nat) (row : List Sy) (st : List Nat) (k : Nat), rdm h t ph row st k = .ok F → F.length ≤ row.length + t.length := by
  intro t
  induction t with
  | nil =>
    intro ph row st k e
    unfold rdm at e
    split at e
    · cases e
    · cases e
      exact Nat.le_refl _
  | cons c t ih =>
    intro ph row st k e
    unfold rdm at e
    cases e0 : nxt h c ph row st with
    | none =>
      rw [e0] at e
      cases e
    | some z =>
      obtain ⟨ph', row', st'⟩ := z
      rw [e0] at e
      have h1 := ih ph' row' st' (k + 1) e
      have h2 := nxt_row e0
      rw [List.length_cons]
      omega
theorem rdm_err {h : Bool} {k' : Nat} : ∀ (t : List Nat) (ph : Nat) (row : List Sy) (st : List Nat) (k : Nat), rdm h t ph row st k = .err k' → k' ≤ k + t.length := by
  intro t
  induction t with
  | nil =>
    intro ph row st k e
    unfold rdm at e
    split at e
    · cases e
      exact Nat.le_refl _
    · cases e
  | cons c t ih =>
    intro ph row st k e
    unfold rdm at e
    cases e0 : nxt h c ph row st with
    | none =>
      rw [e0] at e
      cases e
      exact Nat.le_add_right _ _
    | some z =>
      obtain ⟨ph', row', st'⟩ := z
      rw [e0] at e
      have h1 := ih ph' row' st' (k + 1) e
      rw [List.length_cons]
      omega
/-! ### what is shown is read -/
def goodP (h : Bool) (s : Sy) : Prop := (s.w = [46] ∧ s.n = 0) ∨ (h = true ∧ s.w = [63] ∧ s.n = 0) ∨ (∃ c r, s.w = c :: r ∧ low c ∧ (∀ x ∈ r, wsg x) ∧ r.length ≤ 15 ∧ s.n ≤ 4)
def exc : List Nat → Nat
  | [] => 0
  | x :: r => (x - 1) + exc r
theorem rl_whole {F row : List Sy} {ph : Nat} (h : Rl F row [] ph) (hp : ph ≠ 1) (hl : F.drop row.length = []) : row = F := by
  have h1 : F.length ≤ row.length := List.drop_eq_nil_iff.mp hl
  have h2 := h.len
  apply List.ext_getElem? 
  intro i
  cases e : row[i]? with
  | none =>
    have := List.getElem?_eq_none_iff.mp e
    rw [List.getElem?_eq_none_iff.mpr (by omega)]
  | some s =>
    obtain ⟨s', g1, g2, g3⟩ := h.at_ i s e
    obtain ⟨g4, g5⟩ := g3 fun _ => hp
    have g6 := g5 (by simp)
    rw [g1]
    congr 1
    cases s
    cases s'
    cases g4
    cases g6
    rfl
theorem run_z {r : List Sy} (h : run r 0 = some 0) : r = [] := by
  cases r with
  | nil => rfl
  | cons s r => cases h
theorem nxt_close {h : Bool} {ph i : Nat} {row : List Sy} {st : List Nat} (hp : ph = 1 ∨ ph = 2) : nxt h 41 ph row (i :: st) = some (2, row, st) := by
  unfold nxt
  rw [if_neg (by omega), if_neg (fun z => absurd z.2.1 (by decide)), if_neg (fun z => absurd z.2 (by decide))]
  show (if (41 = 44 ∧ cnt row i < 4) then some (0, modS incS row i, i :: st) else if (41 = 41) then some (2, row, st) else none) = _
  rw [if_neg (fun z => absurd z.1 (by decide)), if_pos rfl]
theorem nxt_comma {h : Bool} {ph i : Nat} {row : List Sy} {st : List Nat} (hp : ph = 1 ∨ ph = 2) (hc : cnt row i < 4) : nxt h 44 ph row (i :: st) = some (0, modS incS row i, i :: st) := by
  unfold nxt
  rw [if_neg (by omega), if_neg (fun z => absurd z.2.1 (by decide)), if_neg (fun z => absurd z.2 (by decide))]
  show (if (44 = 44 ∧ cnt row i < 4) then some (0, modS incS row i, i :: st) else if (44 = 41) then some (2, row, st) else none) = _
  rw [if_pos ⟨rfl, hc⟩]
theorem rdm_some {h : Bool} {c ph ph' k : Nat} {row row' : List Sy} {st st' : List Nat} {t : List Nat} (e : nxt h c ph row st = some (ph', row', st')) : rdm h (c :: t) ph row st k = rdm h t ph' row' st' (k + 1) := by
  show (match nxt h c ph row st with
    | none => Rs.err k
    | some (ph', row', st') => rdm h t ph' row' st' (k + 1)) = _
  rw [e]
theorem rdm_word {h : Bool} {row : List Sy} {st : List Nat} {n : Nat} {t : List Nat} : ∀ (u w : List Nat) (k : Nat), (∀ x ∈ u, wsg x) → w.length + u.length ≤ 16 → rdm h (u ++ t) 1 (row ++ [(⟨w, n⟩ : Sy)]) st k = rdm h t 1 (row ++ [(⟨w ++ u, n⟩ : Sy)]) st (k + u.length) := by
  intro u
  induction u with
  | nil =>
    intro w k _ _
    rw [List.append_nil]
    rfl
  | cons c u ih =>
    intro w k hw hl
    rw [List.length_cons] at hl
    have e : nxt h c 1 (row ++ [(⟨w, n⟩ : Sy)]) st = some (1, row ++ [⟨w ++ [c], n⟩], st) := by
      unfold nxt
      have h1 : wl (row ++ [(⟨w, n⟩ : Sy)]) ((row ++ [(⟨w, n⟩ : Sy)]).length - 1) = w.length := by
        unfold wl
        rw [List.length_append, List.length_singleton, Nat.add_sub_cancel, app_last]
      have h2 : modS (addS c) (row ++ [(⟨w, n⟩ : Sy)]) ((row ++ [(⟨w, n⟩ : Sy)]).length - 1) = row ++ [⟨w ++ [c], n⟩] := by
        unfold modS
        rw [List.length_append, List.length_singleton, Nat.add_sub_cancel, app_last]
        simp [addS]
      rw [if_neg (by decide), if_pos ⟨rfl, hw c List.mem_cons_self, by rw [h1]; omega⟩, h2]
    rw [List.cons_append, rdm_some e, ih (w ++ [c]) (k + 1) (fun x hx => hw x (List.mem_cons_of_mem _ hx)) (by simp; omega), List.append_assoc, List.length_cons]
    congr 1
    omega
theorem rl_any {F row : List Sy} {st : List Nat} {ph ph' : Nat} (h : Rl F row st ph) (hp : ph ≠ 1) : Rl F row st ph' := ⟨h.len, fun i s hs => by
  obtain ⟨s', g1, g2, g3⟩ := h.at_ i s hs
  exact ⟨s', g1, g2, fun _ => g3 fun _ => hp⟩⟩
theorem rl_app {F row : List Sy} {st : List Nat} {s : Sy} (h : Rl F row st 0) (hs : F[row.length]? = some s) (n : Nat) (hn : n ≤ s.n) (hm : row.length ∈ st' ∨ n = s.n) (hsub : ∀ i ∈ st, i ∈ st') : Rl F (row ++ [(⟨s.w, n⟩ : Sy)]) st' 0 := by
  refine ⟨?_, fun i q hq => ?_⟩
  · rw [List.length_append, List.length_singleton]
    exact lt_of hs
  · have hl := lt_of hq
    rw [List.length_append, List.length_singleton] at hl
    by_cases z : i = row.length
    · subst z
      rw [app_last] at hq
      cases hq
      exact ⟨s, hs, hn, fun _ => ⟨rfl, fun y => hm.elim (fun x => absurd x y) fun x => x.symm⟩⟩
    · rw [app_get (by omega)] at hq
      obtain ⟨s', g1, g2, g3⟩ := h.at_ i q hq
      obtain ⟨g4, g5⟩ := g3 fun _ => by decide
      exact ⟨s', g1, g2, fun _ => ⟨g4, fun y => g5 fun x => y (hsub i x)⟩⟩
theorem aft_read {h : Bool} {F : List Sy} {r : List Sy} (few : ∀ s ∈ F, s.n ≤ 4)
    (ih : ∀ row st k, F.drop row.length = r → Iv row st 0 → Rl F row st 0 → run r (1 + exc (msOf F row st)) = some 0 → rdm h (sh r (msOf F row st)) 0 row st k = .ok F) :
    ∀ (st : List Nat) (row : List Sy) (ph k : Nat), ph = 1 ∨ ph = 2 → F.drop row.length = r → Iv row st 2 → Rl F row st 2 → run r (exc (msOf F row st)) = some 0 → rdm h (aft r (msOf F row st)) ph row st k = .ok F := by
  intro st
  induction st with
  | nil =>
    intro row ph k hp hr I rl hrun
    have e := run_z (show run r 0 = some 0 from hrun)
    subst e
    show rdm h [] ph row [] k = _
    unfold rdm
    rw [if_neg (by rintro (h1 | h2); · omega
                   · exact h2 rfl), rl_whole rl (by decide) hr]
  | cons i st ih2 =>
    intro row ph k hp hr I rl hrun
    obtain ⟨hi, _⟩ := I.lt i List.mem_cons_self
    obtain ⟨hnd, hnd2⟩ := List.nodup_cons.mp I.nd
    have hs0 := List.getElem?_eq_getElem hi
    obtain ⟨s', h1, h2, h3⟩ := rl.at_ i row[i] hs0
    obtain ⟨h4, _⟩ := h3 fun _ => by decide
    have e : msOf F row (i :: st) = (s'.n + 1 - row[i].n) :: msOf F row st := by
      show (cnt F i + 1 - cnt row i) :: msOf F row st = _
      rw [cnt_of h1, cnt_of hs0]
    rw [e] at hrun ⊢
    by_cases hq : s'.n = row[i].n
    · have e1 : s'.n + 1 - row[i].n = 1 := by omega
      rw [e1] at hrun ⊢
      show rdm h (41 :: aft r (msOf F row st)) ph row (i :: st) k = _
      rw [rdm_some (nxt_close hp)]
      refine ih2 row 2 (k + 1) (.inr rfl) hr ⟨fun j hj => I.lt j (List.mem_cons_of_mem _ hj), hnd2, fun z => (by cases z), by decide⟩ ⟨rl.len, fun j q hj => ?_⟩ (by simpa [exc] using hrun)
      obtain ⟨q', g1, g2, g3⟩ := rl.at_ j q hj
      obtain ⟨g4, g5⟩ := g3 fun _ => by decide
      refine ⟨q', g1, g2, fun _ => ⟨g4, fun y => ?_⟩⟩
      by_cases z : j = i
      · subst z
        rw [hs0] at hj
        cases hj
        rw [h1] at g1
        cases g1
        exact hq
      · exact g5 fun x => (List.mem_cons.mp x).elim z y
    · have e1 : s'.n + 1 - row[i].n = (s'.n - row[i].n - 1) + 2 := by omega
      rw [e1] at hrun ⊢
      show rdm h (44 :: sh r ((s'.n - row[i].n - 1 + 1) :: msOf F row st)) ph row (i :: st) k = _
      have h5 : s'.n ≤ 4 := few s' (List.mem_of_getElem? h1)
      rw [rdm_some (nxt_comma hp (by rw [cnt_of hs0]; omega))]
      have e2 : msOf F (modS incS row i) (i :: st) = (s'.n - row[i].n - 1 + 1) :: msOf F row st := by
        show (cnt F i + 1 - cnt (modS incS row i) i) :: msOf F (modS incS row i) st = _
        rw [cnt_of h1, cnt_of (modS_same hs0), msOf_congr (row' := row) (st := st) fun j hj => cnt_mod (fun z => hnd (by rw [← z]; exact hj))]
        show (s'.n + 1 - (row[i].n + 1)) :: _ = _
        congr 1
        omega
      rw [← e2]
      refine ih _ _ _ (by rw [modS_len]; exact hr) ⟨fun j hj => ?_, I.nd, fun z => (by cases z), by decide⟩ ⟨by rw [modS_len]; exact rl.len, fun j q hj => ?_⟩ ?_
      · rw [modS_len]
        exact ⟨(I.lt j hj).1, fun z => (by cases z)⟩
      · by_cases z : j = i
        · subst z
          rw [modS_same hs0] at hj
          cases hj
          exact ⟨s', h1, by show row[j].n + 1 ≤ s'.n; omega, fun _ => ⟨h4, fun y => absurd List.mem_cons_self y⟩⟩
        · rw [modS_ne z] at hj
          obtain ⟨q', g1, g2, g3⟩ := rl.at_ j q hj
          exact ⟨q', g1, g2, fun _ => g3 fun _ => by decide⟩
      · rw [e2]
        have : exc ((s'.n - row[i].n - 1 + 2) :: msOf F row st) = 1 + exc ((s'.n - row[i].n - 1 + 1) :: msOf F row st) := by
          unfold exc
          omega
        rw [← this]
        exact hrun
theorem sh_read {h : Bool} {F : List Sy} (good : ∀ s ∈ F, goodP h s) : ∀ (r : List Sy) (row : List Sy) (st : List Nat) (k : Nat), F.drop row.length = r → Iv row st 0 → Rl F row st 0 → run r (1 + exc (msOf F row st)) = some 0 → rdm h (sh r (msOf F row st)) 0 row st k = .ok F := by
  have few : ∀ s ∈ F, s.n ≤ 4 := fun s hs => by
    rcases good s hs with ⟨_, h⟩ | ⟨_, _, h⟩ | ⟨_, _, _, _, _, _, h⟩ <;> omega
  intro r
  induction r with
  | nil =>
    intro row st k _ _ _ hrun
    rw [Nat.add_comm] at hrun
    cases hrun
  | cons s r ih =>
    intro row st k hr I rl hrun
    obtain ⟨hs, hd, hl⟩ := at_drop hr
    rw [Nat.add_comm] at hrun
    have hrun : run r (exc (msOf F row st) + s.n) = some 0 := hrun
    have lenL : (row ++ [(⟨s.w, s.n⟩ : Sy)]).length = row.length + 1 := by simp
    have ivL : ∀ ph n, ph ≠ 1 → ph ≤ 2 → Iv (row ++ [(⟨s.w, n⟩ : Sy)]) st ph := fun ph n h1 h2 => ⟨fun i hi => ⟨by have := (I.lt i hi).1; rw [List.length_append]; omega, fun z => absurd z h1⟩, I.nd, fun z => absurd z h1, h2⟩
    have leaf : s.n = 0 → ∀ ph k, ph = 1 ∨ ph = 2 → rdm h (aft r (msOf F row st)) ph (row ++ [(⟨s.w, 0⟩ : Sy)]) st k = .ok F := fun h0 ph k hp => by
      have e : msOf F (row ++ [(⟨s.w, 0⟩ : Sy)]) st = msOf F row st := msOf_congr fun i hi => cnt_app (I.lt i hi).1
      rw [← e]
      refine aft_read few ih st _ ph k hp (by rw [List.length_append]; exact hd) (ivL 2 0 (by decide) (by decide)) (rl_any (rl_app rl hs 0 (by omega) (.inr h0.symm) fun _ z => z) (by decide)) ?_
      rw [e]
      rw [h0] at hrun
      exact hrun
    have hmem : s ∈ F := List.mem_of_getElem? hs
    rcases good s hmem with ⟨hw, h0⟩ | ⟨hh, hw, h0⟩ | ⟨c, u, hw, hc, hu, hlen, hn⟩
    · rw [sh_cons, hw, h0, if_neg (by decide)]
      have e : nxt h 46 0 row st = some (2, row ++ [⟨[46], 0⟩], st) := by
        unfold nxt
        rw [if_pos rfl, if_neg (by decide), if_pos (.inl rfl)]
      rw [List.singleton_append, rdm_some e]
      have := leaf h0 2 (k + 1) (.inr rfl)
      rw [hw] at this
      exact this
    · rw [sh_cons, hw, h0, if_neg (by decide)]
      have e : nxt h 63 0 row st = some (2, row ++ [⟨[63], 0⟩], st) := by
        unfold nxt
        rw [if_pos rfl, if_neg (by decide), if_pos (.inr ⟨hh, rfl⟩)]
      rw [List.singleton_append, rdm_some e]
      have := leaf h0 2 (k + 1) (.inr rfl)
      rw [hw] at this
      exact this
    · have e : nxt h c 0 row st = some (1, row ++ [⟨[c], 0⟩], st) := by
        unfold nxt
        rw [if_pos rfl, if_pos hc]
      rw [sh_cons, hw, List.cons_append, rdm_some e, rdm_word u [c] (k + 1) hu (by simp; omega)]
      rw [show [c] ++ u = s.w by rw [hw] <;> rfl]
      by_cases h0 : 0 < s.n
      · rw [if_pos h0]
        have e2 : nxt h 40 1 (row ++ [(⟨s.w, 0⟩ : Sy)]) st = some (0, row ++ [⟨s.w, 1⟩], row.length :: st) := by
          have h2 : modS oneS (row ++ [(⟨s.w, 0⟩ : Sy)]) row.length = row ++ [⟨s.w, 1⟩] := by
            unfold modS
            rw [app_last]
            simp [oneS]
          unfold nxt
          rw [if_neg (by decide), if_neg (fun z => absurd z.2.1 (by decide)), if_pos ⟨rfl, rfl⟩, List.length_append, List.length_singleton, Nat.add_sub_cancel, h2]
        rw [rdm_some e2]
        have e3 : msOf F (row ++ [(⟨s.w, 1⟩ : Sy)]) (row.length :: st) = s.n :: msOf F row st := by
          show (cnt F row.length + 1 - cnt (row ++ [(⟨s.w, 1⟩ : Sy)]) row.length) :: msOf F (row ++ [(⟨s.w, 1⟩ : Sy)]) st = _
          rw [cnt_of hs, cnt_of app_last, msOf_congr (row' := row) fun i hi => cnt_app (I.lt i hi).1]
          rfl
        rw [← e3]
        refine ih _ _ _ (by rw [List.length_append]; exact hd) ⟨fun i hi => ?_, ?_, fun z => (by cases z), by decide⟩ (rl_app rl hs 1 h0 (.inl List.mem_cons_self) fun i hi => List.mem_cons_of_mem _ hi) ?_
        · refine ⟨?_, fun z => (by cases z)⟩
          rw [List.length_append, List.length_singleton]
          rcases List.mem_cons.mp hi with rfl | hi
          · omega
          · have := (I.lt i hi).1
            omega
        · exact List.nodup_cons.mpr ⟨fun hm => absurd (I.lt _ hm).1 (by omega), I.nd⟩
        · rw [e3]
          have : 1 + exc (s.n :: msOf F row st) = exc (msOf F row st) + s.n := by
            show 1 + ((s.n - 1) + exc (msOf F row st)) = _
            omega
          rw [this]
          exact hrun
      · rw [if_neg h0]
        exact leaf (by omega) 1 _ (.inl rfl)
theorem shown_read {h : Bool} {F : List Sy} (good : ∀ s ∈ F, goodP h s) (w : whole F) : rdm h (sh F []) 0 [] [] 0 = .ok F :=
  sh_read good F [] [] 0 rfl ⟨fun _ z => (by cases z), List.nodup_nil, fun z => (by cases z), by decide⟩ ⟨Nat.zero_le _, fun i s hs => by simp at hs⟩ w
end AL
set_option maxHeartbeats 2000000
namespace AL
open PySem L2 Evl
/-! ### showing by the ends of the pieces -/
def endF (F : List Sy) (j : Nat) : Nat := j + far (F.drop j) 1
def inE (F : List Sy) (e j : Nat) : Bool := decide (0 < cnt F j) && decide (endF F j = e)
def ecount (F : List Sy) (k e : Nat) : Nat := ((List.range k).filter (inE F e)).length
def lw (F : List Sy) : List Sy → Nat → List Nat
  | [], _ => []
  | s :: r, k => s.w ++ ((if 0 < s.n then [40] else List.replicate (ecount F k (k + 1)) 41 ++ (if k + 1 < F.length then [44] else [])) ++ lw F r (k + 1))
def opn (F : List Sy) (k : Nat) : List Nat → List Nat → Nat → Prop
  | [], [], _ => True
  | e :: es, m :: ms, a => e = k + far (F.drop k) (a + (m - 1)) ∧ 1 ≤ m ∧ opn F k es ms (a + (m - 1))
  | _, _, _ => False
theorem opn_step {F : List Sy} {k : Nat} {s : Sy} {r : List Sy} (h : F.drop k = s :: r) : ∀ (es ms : List Nat) (x : Nat), opn F k es ms (x + 1) → opn F (k + 1) es ms (x + s.n) := by
  have hd := (at_drop h).2.1
  intro es
  induction es with
  | nil =>
    intro ms x o
    cases ms with
    | nil => trivial
    | cons m ms => exact o.elim
  | cons e es ih =>
    intro ms x o
    cases ms with
    | nil => exact o.elim
    | cons m ms =>
      obtain ⟨h1, h2, h3⟩ := o
      rw [show x + 1 + (m - 1) = (x + (m - 1)) + 1 by omega] at h1 h3
      have h4 := ih ms (x + (m - 1)) h3
      rw [show x + (m - 1) + s.n = x + s.n + (m - 1) by omega] at h4
      refine ⟨?_, h2, h4⟩
      rw [h1, h, hd]
      show k + (far r (x + (m - 1) + s.n) + 1) = _
      rw [show x + (m - 1) + s.n = x + s.n + (m - 1) by omega]
      omega
theorem opn_gt {F : List Sy} {k : Nat} {s : Sy} {r : List Sy} (h : F.drop k = s :: r) : ∀ (es ms : List Nat) (a : Nat), 1 ≤ a → opn F k es ms a → ∀ e ∈ es, k < e := by
  intro es
  induction es with
  | nil =>
    intro ms a _ _ e he
    cases he
  | cons e0 es ih =>
    intro ms a ha o e he
    cases ms with
    | nil => exact o.elim
    | cons m ms =>
      obtain ⟨h1, h2, h3⟩ := o
      rcases List.mem_cons.mp he with rfl | he
      · rw [h1, h]
        obtain ⟨b, hb⟩ : ∃ b, a + (m - 1) = b + 1 := ⟨a + (m - 1) - 1, by omega⟩
        rw [hb]
        show k < k + (far r (b + s.n) + 1)
        omega
      · exact ih ms _ (by omega) h3 e he
theorem count_gt {es : List Nat} {k : Nat} (h : ∀ e ∈ es, k < e) : es.count k = 0 := List.count_eq_zero.mpr fun hm => absurd (h k hm) (Nat.lt_irrefl k)
/-- the brackets behind a leaf -/
theorem close_ends {F : List Sy} {k : Nat} : ∀ (ms es : List Nat), opn F k es ms 0 → run (F.drop k) (exc ms) = some 0 →
    (cl ms).1 = List.replicate (es.count k) 41 ++ (if k < F.length then [44] else []) ∧
    (F.drop k = [] ∨ ∃ es', opn F k es' (cl ms).2 1 ∧ run (F.drop k) (1 + exc (cl ms).2) = some 0 ∧ ∀ e, k < e → es.count e = es'.count e) := by
  intro ms
  induction ms with
  | nil =>
    intro es o hr
    cases es with
    | cons e es => exact o.elim
    | nil =>
      have h := run_z hr
      have : ¬k < F.length := by
        have := List.drop_eq_nil_iff.mp h
        omega
      rw [if_neg this]
      exact ⟨rfl, .inl h⟩
  | cons m ms ih =>
    intro es o hr
    cases es with
    | nil => exact o.elim
    | cons e es =>
      obtain ⟨h1, h2, h3⟩ := o
      match m, h2 with
      | 1, _ =>
        obtain ⟨h4, h5⟩ := ih es h3 (by simpa [exc] using hr)
        have he : e = k := by
          rw [h1]
          show k + far (F.drop k) 0 = k
          rw [far_zero]
          rfl
        refine ⟨?_, ?_⟩
        · show 41 :: (cl ms).1 = _
          rw [h4, he, List.count_cons_self, List.replicate_succ]
          rfl
        · rcases h5 with h5 | ⟨es', g1, g2, g3⟩
          · exact .inl h5
          · refine .inr ⟨es', g1, g2, fun e' he' => ?_⟩
            rw [← g3 e' he', List.count_cons_of_ne (by omega)]
      | j + 2, _ =>
        have hr : run (F.drop k) ((j + 1) + exc ms) = some 0 := hr
        cases hd : F.drop k with
        | nil =>
          rw [hd, show j + 1 + exc ms = (j + exc ms) + 1 by omega] at hr
          cases hr
        | cons s r =>
          have hl := (at_drop hd).2.2
          have ho : opn F k (e :: es) ((j + 1) :: ms) 1 := by
            refine ⟨?_, by omega, ?_⟩
            · rw [h1]
              congr 2
              omega
            · rw [show 1 + (j + 1 - 1) = 0 + (j + 2 - 1) by omega]
              exact h3
          refine ⟨?_, .inr ⟨e :: es, ho, ?_, fun _ _ => rfl⟩⟩
          · rw [count_gt (opn_gt hd _ _ 1 (Nat.le_refl _) ho), if_pos hl]
            rfl
          · rw [← hd]
            show run (F.drop k) (1 + ((j + 1 - 1) + exc ms)) = some 0
            rw [show 1 + ((j + 1 - 1) + exc ms) = j + 1 + exc ms by omega]
            exact hr
theorem ecount_succ {F : List Sy} {k e : Nat} : ecount F (k + 1) e = ecount F k e + (if inE F e k = true then 1 else 0) := by
  unfold ecount
  rw [List.range_succ, List.filter_append, List.length_append]
  cases h : inE F e k <;> simp [h]
theorem lw_sh {F : List Sy} : ∀ (r : List Sy) (k : Nat) (es ms : List Nat), F.drop k = r → opn F k es ms 1 → run r (1 + exc ms) = some 0 → (∀ e, k < e → ecount F k e = es.count e) → lw F r k = sh r ms := by
  intro r
  induction r with
  | nil =>
    intro k es ms _ _ hr _
    rw [Nat.add_comm] at hr
    cases hr
  | cons s r ih =>
    intro k es ms hd o hr hc
    obtain ⟨hs, hd2, hl⟩ := at_drop hd
    rw [Nat.add_comm] at hr
    have hr : run r (exc ms + s.n) = some 0 := hr
    have step := opn_step hd es ms 0 o
    rw [Nat.zero_add] at step
    rw [sh_cons]
    show s.w ++ ((if 0 < s.n then [40] else List.replicate (ecount F k (k + 1)) 41 ++ (if k + 1 < F.length then [44] else [])) ++ lw F r (k + 1)) = _
    by_cases h0 : 0 < s.n
    · rw [if_pos h0, if_pos h0]
      have he : endF F k = k + 1 + far (F.drop (k + 1)) (1 + (s.n - 1)) := by
        unfold endF
        rw [hd, hd2]
        show k + (far r (0 + s.n) + 1) = _
        rw [show 1 + (s.n - 1) = 0 + s.n by omega]
        omega
      rw [ih (k + 1) (endF F k :: es) (s.n :: ms) hd2 ⟨he, h0, by rw [show 1 + (s.n - 1) = s.n by omega]; exact step⟩ (by
        show run r (1 + ((s.n - 1) + exc ms)) = some 0
        rw [show 1 + ((s.n - 1) + exc ms) = exc ms + s.n by omega]
        exact hr) fun e hke => ?_]
      · rfl
      · rw [ecount_succ, hc e (by omega), List.count_cons]
        congr 1
        unfold inE
        rw [cnt_of hs]
        simp [h0]
    · have hz : s.n = 0 := by omega
      rw [if_neg h0, if_neg h0]
      rw [hz] at step hr
      obtain ⟨c1, c2⟩ := close_ends ms es step (by rw [hd2]; exact hr)
      rw [hc (k + 1) (by omega)]
      unfold aft
      rw [c1]
      congr 2
      rcases c2 with c2 | ⟨es', g1, g2, g3⟩
      · rw [hd2] at c2
        rw [c2]
        rfl
      · rw [hd2] at g2
        refine ih (k + 1) es' _ hd2 g1 g2 fun e hke => ?_
        rw [ecount_succ, hc e (by omega), ← g3 e hke]
        unfold inE
        rw [cnt_of hs]
        simp [h0]
theorem law_shows {F : List Sy} (w : whole F) : lw F F 0 = sh F [] := lw_sh F 0 [] [] rfl trivial w fun _ _ => rfl
end AL
set_option maxHeartbeats 2000000
namespace AL
open PySem L2 Evl
variable {K : PySem.W.Frag}
/-! ### parameters checked -/
def sp_need (C : Addr) : ASp := fun ds m P W => ∃ (b : Bool) (z : Str), ds = [.bl b, .str z] ∧ (b = true → P .non m) ∧ (b = false → W C [("at", .int (-1)), ("word", .str z)] m)
theorem rd_need {C : Addr} : ∀ ds m Q W, sp_need C ds m Q W → b_need C W { nx := fun _ m' => fzE K Q .non m', rt := fzE K Q } (ds.map some ++ List.replicate (N_need.length - ds.length) none) m := by
  rintro ds m Q W ⟨b, z, rfl, h1, h2⟩
  change b_need C W _ [some (.bl b), some (.str z)] m
  unfold b_need
  cases b
  · simp only [aSeq, aSet, aC, aVar, aOp, aTest, aTru, aAnd, aOr, aNot, aAndV, aOrV, aNotV, aIfE, aNil, aCons, aTup, aLst, aLstB, aUn, aCa, aSl, aNo, aPart, aM, aML, aRet, aRetN, aIf, aDo, aNext, aCont, aBrk, aAsg, aCall, aCallX, aMeth, aFld, aSetFld, aFldAug, aAug, aRaise, aMake, aYes, kName, kCons, kNil, kSub, nth, put, wipeD, asT_b, fAdd_i, fAdd_s, fAdd_t, fAdd_l, fSub_i, fLt_i, fLe_i, fGt_i, fGe_i, fMul_i, fMod_i, fFdiv_i, fPow_i, fNeg_i, fEq_i, fEq_s, fEq_b, fNe_i, fNe_s, fNe_b, fIn_s, fNi_s, fIx_t0, fIx_t1, fIx_t2, fIx_l0, fIx_l1, fSl_s, fSl_t, fSl_l, fLen_t, fLen_l, fInt_i, fAbs_i, fMax_i, fMin_i, fTuple_t, fTuple_l, fList_t, fList_l, fRepS_s, seqOf_t, seqOf_l, truD_b, truD_t, truD_l, kTup_t, fIsN_n, fIsi_non_int, fIsi_non_bool, fIsi_non_str, fIsi_non_tuple, fIsi_non_list, fIsi_bl_int, fIsi_bl_bool, fIsi_bl_str, fIsi_bl_tuple, fIsi_bl_list, fIsi_int_int, fIsi_int_bool, fIsi_int_str, fIsi_int_tuple, fIsi_int_list, fIsi_str_int, fIsi_str_bool, fIsi_str_str, fIsi_str_tuple, fIsi_str_list, fIsi_tup_int, fIsi_tup_bool, fIsi_tup_str, fIsi_tup_tuple, fIsi_tup_list, fIsi_lst_int, fIsi_lst_bool, fIsi_lst_str, fIsi_lst_tuple, fIsi_lst_list, isN, fIx_sy0, fIx_sy1, ite_tt, ite_ff]
    rw [if_pos (by rfl)]
    exact h2 rfl
  · simp only [aSeq, aSet, aC, aVar, aOp, aTest, aTru, aAnd, aOr, aNot, aAndV, aOrV, aNotV, aIfE, aNil, aCons, aTup, aLst, aLstB, aUn, aCa, aSl, aNo, aPart, aM, aML, aRet, aRetN, aIf, aDo, aNext, aCont, aBrk, aAsg, aCall, aCallX, aMeth, aFld, aSetFld, aFldAug, aAug, aRaise, aMake, aYes, kName, kCons, kNil, kSub, nth, put, wipeD, asT_b, fAdd_i, fAdd_s, fAdd_t, fAdd_l, fSub_i, fLt_i, fLe_i, fGt_i, fGe_i, fMul_i, fMod_i, fFdiv_i, fPow_i, fNeg_i, fEq_i, fEq_s, fEq_b, fNe_i, fNe_s, fNe_b, fIn_s, fNi_s, fIx_t0, fIx_t1, fIx_t2, fIx_l0, fIx_l1, fSl_s, fSl_t, fSl_l, fLen_t, fLen_l, fInt_i, fAbs_i, fMax_i, fMin_i, fTuple_t, fTuple_l, fList_t, fList_l, fRepS_s, seqOf_t, seqOf_l, truD_b, truD_t, truD_l, kTup_t, fIsN_n, fIsi_non_int, fIsi_non_bool, fIsi_non_str, fIsi_non_tuple, fIsi_non_list, fIsi_bl_int, fIsi_bl_bool, fIsi_bl_str, fIsi_bl_tuple, fIsi_bl_list, fIsi_int_int, fIsi_int_bool, fIsi_int_str, fIsi_int_tuple, fIsi_int_list, fIsi_str_int, fIsi_str_bool, fIsi_str_str, fIsi_str_tuple, fIsi_str_list, fIsi_tup_int, fIsi_tup_bool, fIsi_tup_str, fIsi_tup_tuple, fIsi_tup_list, fIsi_lst_int, fIsi_lst_bool, fIsi_lst_str, fIsi_lst_tuple, fIsi_lst_list, isN, fIx_sy0, fIx_sy1, ite_tt, ite_ff]
    rw [if_neg (by decide)]
    exact fzE.of (h1 rfl)
/-! ### texts shown -/
def txD (w : List Nat) : D := .str (tx w)
theorem strs_tx : ∀ (ps : List (List Nat)), strsOf (ps.map txD) = some (ps.map tx)
  | [] => rfl
  | p :: ps => by
    show (match strOf (txD p) with
      | some z => (match strsOf (ps.map txD) with
        | some zs => some (z :: zs)
        | none => none)
      | none => none) = _
    rw [strs_tx ps]
    rfl
theorem join_tx : ∀ (ps : List (List Nat)), PySem.Str.join (tx []) (ps.map tx) = tx ps.flatten
  | [] => rfl
  | [p] => by
    show tx p = tx (p ++ [])
    rw [List.append_nil]
  | p :: q :: ps => by
    show tx p ++ tx [] ++ PySem.Str.join (tx []) ((q :: ps).map tx) = _
    rw [join_tx (q :: ps), tx_app, tx_app, List.append_nil]
    rfl
theorem sum_tx : ∀ (ps : List (List Nat)), ((ps.map tx).map (·.length)).sum = ps.flatten.length
  | [] => rfl
  | p :: ps => by
    show (tx p).length + ((ps.map tx).map (·.length)).sum = (p ++ ps.flatten).length
    rw [sum_tx ps, tx_len, List.length_append]
theorem few_parts : ∀ {ps : List (List Nat)}, (∀ p ∈ ps, p ≠ []) → ps.length ≤ ps.flatten.length
  | [], _ => Nat.le_refl _
  | p :: ps, h => by
    have h1 := few_parts (ps := ps) fun q hq => h q (List.mem_cons_of_mem _ hq)
    have h2 : 0 < p.length := List.length_pos_iff.mpr (h p List.mem_cons_self)
    show ps.length + 1 ≤ (p ++ ps.flatten).length
    rw [List.length_append]
    omega
theorem sh_len : ∀ (r : List Sy) (ms : List Nat), (∀ s ∈ r, s.w ≠ []) → r.length ≤ (sh r ms).length
  | [], ms, _ => Nat.le_refl _
  | s :: r, ms, h => by
    have h2 : 0 < s.w.length := List.length_pos_iff.mpr (h s List.mem_cons_self)
    have h3 : ∀ ms', r.length ≤ (sh r ms').length := fun ms' => sh_len r ms' fun q hq => h q (List.mem_cons_of_mem _ hq)
    rw [sh_cons, List.length_append, List.length_cons]
    split
    · have := h3 (s.n :: ms)
      rw [List.length_cons]
      omega
    · unfold aft
      have := h3 (cl ms).2
      rw [List.length_append]
      omega
theorem join_t (ps : List (List Nat)) : PySem.Txt.join "" (ps.map tx) = tx ps.flatten := by
  show PySem.Builtin.Str.glued (tx []) (ps.map tx) = _
  rw [PySem.StrLaws.glued_eq_join]
  exact join_tx ps
def numD (n : Nat) : D := .int (n : Int)
def sp_shown : ASp := fun ds m P _ => ∃ (r : List Sy), ds = [rowD r] ∧ (∀ s ∈ r, s.w ≠ []) ∧ (sh r []).length ≤ 20000 ∧ P (.str (tx (sh r []))) m
theorem rd_shown : ∀ ds m Q W, sp_shown ds m Q W → b_shown W { nx := fun _ m' => fzE K Q .non m', rt := fzE K Q } (ds.map some ++ List.replicate (N_shown.length - ds.length) none) m := by
  rintro ds m Q W ⟨r, rfl, hne, hl, hq⟩
  change b_shown W _ [some (rowD r), none, none, none, none] m
  unfold b_shown
  simp only [aSeq, aSet, aC, aVar, aOp, aTest, aTru, aAnd, aOr, aNot, aAndV, aOrV, aNotV, aIfE, aNil, aCons, aTup, aLst, aLstB, aUn, aCa, aSl, aNo, aPart, aM, aML, aRet, aRetN, aIf, aDo, aNext, aCont, aBrk, aAsg, aCall, aCallX, aMeth, aFld, aSetFld, aFldAug, aAug, aRaise, aMake, aYes, kName, kCons, kNil, kSub, nth, put, wipeD, asT_b, fAdd_i, fAdd_s, fAdd_t, fAdd_l, fSub_i, fLt_i, fLe_i, fGt_i, fGe_i, fMul_i, fMod_i, fFdiv_i, fPow_i, fNeg_i, fEq_i, fEq_s, fEq_b, fNe_i, fNe_s, fNe_b, fIn_s, fNi_s, fIx_t0, fIx_t1, fIx_t2, fIx_l0, fIx_l1, fSl_s, fSl_t, fSl_l, fLen_t, fLen_l, fInt_i, fAbs_i, fMax_i, fMin_i, fTuple_t, fTuple_l, fList_t, fList_l, fRepS_s, seqOf_t, seqOf_l, truD_b, truD_t, truD_l, kTup_t, fIsN_n, fIsi_non_int, fIsi_non_bool, fIsi_non_str, fIsi_non_tuple, fIsi_non_list, fIsi_bl_int, fIsi_bl_bool, fIsi_bl_str, fIsi_bl_tuple, fIsi_bl_list, fIsi_int_int, fIsi_int_bool, fIsi_int_str, fIsi_int_tuple, fIsi_int_list, fIsi_str_int, fIsi_str_bool, fIsi_str_str, fIsi_str_tuple, fIsi_str_list, fIsi_tup_int, fIsi_tup_bool, fIsi_tup_str, fIsi_tup_tuple, fIsi_tup_list, fIsi_lst_int, fIsi_lst_bool, fIsi_lst_str, fIsi_lst_tuple, fIsi_lst_list, isN, fIx_sy0, fIx_sy1, ite_tt, ite_ff]
  refine ⟨by decide, fun t ht => ⟨by decide, fun q hq0 => ?_⟩⟩
  have ntq : t ≠ q := fun z => by
    rw [← z, mset_same] at hq0
    cases hq0
  have hmq : m q = none := by
    rw [mset_ne (Ne.symm ntq)] at hq0
    exact hq0
  simp only [aFor, aVar, nth]
  have hrl := sh_len r [] hne
  -- what has been shown so far
  let St : Nat → List (List Nat) → List Nat → Mu → Prop := fun i ps ms m' => m' = mset (mset m t (.lst (ps.map txD))) q (.lst (ms.reverse.map numD)) ∧ (∀ p ∈ ps, p ≠ []) ∧ (∀ x ∈ ms, 1 ≤ x) ∧ ms.length ≤ i
  refine ⟨r.map syD, rfl, fun i g m' => ∃ (ps : List (List Nat)) (ms : List Nat) (a b : Option D), g = [some (rowD r), some (.box t), some (.box q), a, b] ∧ St i ps ms m' ∧ ps.flatten ++ sh (r.drop i) ms = sh r [], ⟨[], [], none, none, rfl, ⟨rfl, fun _ h => (by cases h), fun _ h => (by cases h), Nat.le_refl _⟩, rfl⟩, fun _ _ _ _ _ => rfl, ?_, ?_⟩
  · rintro i x g m' hx ⟨ps, ms, a, b, rfl, ⟨rfl, hps, hms, hml⟩, htx⟩
    rw [List.getElem?_map] at hx
    obtain ⟨s, hs, rfl⟩ := Option.map_eq_some_iff.mp hx
    have hlt := lt_of hs
    rw [drop_get hs, sh_cons] at htx
    have hmt : ∀ (o o' : MO), mset (mset m t o) q o' t = some o := fun o o' => by rw [mset_ne ntq, mset_same]
    have upT : ∀ (o o' o2 : MO), mset (mset (mset m t o) q o') t o2 = mset (mset m t o2) q o' := fun o o' o2 => by
      rw [mset_comm ntq.symm, mset_mset]
    have hbig : ∀ (ps' : List (List Nat)) (tl : List Nat), (∀ p ∈ ps', p ≠ []) → ps'.flatten ++ tl = sh r [] → (ps'.map txD).length < 100000 := fun ps' tl h1 h2 => by
      have := congrArg List.length h2
      rw [List.length_append] at this
      have := few_parts h1
      rw [List.length_map]
      omega
    have pw : ∀ p ∈ ps ++ [s.w], p ≠ [] := fun p hp => by
      rcases List.mem_append.mp hp with h | h
      · exact hps p h
      · rw [List.mem_singleton.mp h]
        exact hne s (List.mem_of_getElem? hs)
    have fl : ∀ (a : List (List Nat)) (b : List Nat), (a ++ [b]).flatten = a.flatten ++ b := fun a b => by simp
    have md : ∀ (a : List (List Nat)) (b : List Nat), a.map txD ++ [.str (tx b)] = (a ++ [b]).map txD := fun a b => by
      rw [List.map_append]
      rfl
    simp only [aSeq, aSet, aC, aVar, aOp, aTest, aTru, aAnd, aOr, aNot, aAndV, aOrV, aNotV, aIfE, aNil, aCons, aTup, aLst, aLstB, aUn, aCa, aSl, aNo, aPart, aM, aML, aRet, aRetN, aIf, aDo, aNext, aCont, aBrk, aAsg, aCall, aCallX, aMeth, aFld, aSetFld, aFldAug, aAug, aRaise, aMake, aYes, kName, kCons, kNil, kSub, nth, put, wipeD, asT_b, fAdd_i, fAdd_s, fAdd_t, fAdd_l, fSub_i, fLt_i, fLe_i, fGt_i, fGe_i, fMul_i, fMod_i, fFdiv_i, fPow_i, fNeg_i, fEq_i, fEq_s, fEq_b, fNe_i, fNe_s, fNe_b, fIn_s, fNi_s, fIx_t0, fIx_t1, fIx_t2, fIx_l0, fIx_l1, fSl_s, fSl_t, fSl_l, fLen_t, fLen_l, fInt_i, fAbs_i, fMax_i, fMin_i, fTuple_t, fTuple_l, fList_t, fList_l, fRepS_s, seqOf_t, seqOf_l, truD_b, truD_t, truD_l, kTup_t, fIsN_n, fIsi_non_int, fIsi_non_bool, fIsi_non_str, fIsi_non_tuple, fIsi_non_list, fIsi_bl_int, fIsi_bl_bool, fIsi_bl_str, fIsi_bl_tuple, fIsi_bl_list, fIsi_int_int, fIsi_int_bool, fIsi_int_str, fIsi_int_tuple, fIsi_int_list, fIsi_str_int, fIsi_str_bool, fIsi_str_str, fIsi_str_tuple, fIsi_str_list, fIsi_tup_int, fIsi_tup_bool, fIsi_tup_str, fIsi_tup_tuple, fIsi_tup_list, fIsi_lst_int, fIsi_lst_bool, fIsi_lst_str, fIsi_lst_tuple, fIsi_lst_list, isN, fIx_sy0, fIx_sy1, ite_tt, ite_ff, syD, isL_b (hmt _ _), fApp_b (hmt _ _), true_and, upT, md]
    refine ⟨by rfl, ⟨hbig ps _ hps htx, ?_⟩⟩
    by_cases h0 : 0 < s.n
    · have h0' : (0 : Int) < (s.n : Int) := by omega
      rw [if_pos h0, ← List.append_assoc, ← fl] at htx
      have htx2 : (ps ++ [s.w] ++ [[40]]).flatten ++ sh (r.drop (i + 1)) (s.n :: ms) = sh r [] := by
        rw [fl, List.append_assoc]
        exact htx
      refine cut_plain ?_
      simp only [aSeq, aSet, aC, aVar, aOp, aTest, aTru, aAnd, aOr, aNot, aAndV, aOrV, aNotV, aIfE, aNil, aCons, aTup, aLst, aLstB, aUn, aCa, aSl, aNo, aPart, aM, aML, aRet, aRetN, aIf, aDo, aNext, aCont, aBrk, aAsg, aCall, aCallX, aMeth, aFld, aSetFld, aFldAug, aAug, aRaise, aMake, aYes, kName, kCons, kNil, kSub, nth, put, wipeD, asT_b, fAdd_i, fAdd_s, fAdd_t, fAdd_l, fSub_i, fLt_i, fLe_i, fGt_i, fGe_i, fMul_i, fMod_i, fFdiv_i, fPow_i, fNeg_i, fEq_i, fEq_s, fEq_b, fNe_i, fNe_s, fNe_b, fIn_s, fNi_s, fIx_t0, fIx_t1, fIx_t2, fIx_l0, fIx_l1, fSl_s, fSl_t, fSl_l, fLen_t, fLen_l, fInt_i, fAbs_i, fMax_i, fMin_i, fTuple_t, fTuple_l, fList_t, fList_l, fRepS_s, seqOf_t, seqOf_l, truD_b, truD_t, truD_l, kTup_t, fIsN_n, fIsi_non_int, fIsi_non_bool, fIsi_non_str, fIsi_non_tuple, fIsi_non_list, fIsi_bl_int, fIsi_bl_bool, fIsi_bl_str, fIsi_bl_tuple, fIsi_bl_list, fIsi_int_int, fIsi_int_bool, fIsi_int_str, fIsi_int_tuple, fIsi_int_list, fIsi_str_int, fIsi_str_bool, fIsi_str_str, fIsi_str_tuple, fIsi_str_list, fIsi_tup_int, fIsi_tup_bool, fIsi_tup_str, fIsi_tup_tuple, fIsi_tup_list, fIsi_lst_int, fIsi_lst_bool, fIsi_lst_str, fIsi_lst_tuple, fIsi_lst_list, isN, fIx_sy0, fIx_sy1, ite_tt, ite_ff, decide_eq_true h0', isL_b (hmt _ _), fApp_b (hmt _ _), isL_b mset_same, fApp_b mset_same, true_and, upT]
      have e1 : (ps ++ [s.w]).map txD ++ [.str "("] = (ps ++ [s.w] ++ [[40]]).map txD := md _ [40]
      rw [e1]
      refine ⟨hbig _ _ pw htx, ?_, ps ++ [s.w] ++ [[40]], s.n :: ms, _, _, rfl, ⟨?_, ?_, ?_, ?_⟩, htx2⟩
      · rw [List.length_map, List.length_reverse]
        omega
      · rw [mset_mset, List.reverse_cons, List.map_append (f := numD)]
        rfl
      · intro p hp
        rcases List.mem_append.mp hp with h | h
        · exact pw p h
        · rw [List.mem_singleton.mp h]
          decide
      · intro x hx
        rcases List.mem_cons.mp hx with rfl | h
        · exact h0
        · exact hms x h
      · rw [List.length_cons]
        omega
    · have h0' : ¬(0 : Int) < (s.n : Int) := by omega
      rw [if_neg h0, ← List.append_assoc, ← fl] at htx
      have h0i : decide ((0 : Int) < (s.n : Int)) = false := decide_eq_false h0'
      refine cut_plain ?_
      simp only [aSeq, aSet, aC, aVar, aOp, aTest, aTru, aAnd, aOr, aNot, aAndV, aOrV, aNotV, aIfE, aNil, aCons, aTup, aLst, aLstB, aUn, aCa, aSl, aNo, aPart, aM, aML, aRet, aRetN, aIf, aDo, aNext, aCont, aBrk, aAsg, aCall, aCallX, aMeth, aFld, aSetFld, aFldAug, aAug, aRaise, aMake, aYes, kName, kCons, kNil, kSub, nth, put, wipeD, asT_b, fAdd_i, fAdd_s, fAdd_t, fAdd_l, fSub_i, fLt_i, fLe_i, fGt_i, fGe_i, fMul_i, fMod_i, fFdiv_i, fPow_i, fNeg_i, fEq_i, fEq_s, fEq_b, fNe_i, fNe_s, fNe_b, fIn_s, fNi_s, fIx_t0, fIx_t1, fIx_t2, fIx_l0, fIx_l1, fSl_s, fSl_t, fSl_l, fLen_t, fLen_l, fInt_i, fAbs_i, fMax_i, fMin_i, fTuple_t, fTuple_l, fList_t, fList_l, fRepS_s, seqOf_t, seqOf_l, truD_b, truD_t, truD_l, kTup_t, fIsN_n, fIsi_non_int, fIsi_non_bool, fIsi_non_str, fIsi_non_tuple, fIsi_non_list, fIsi_bl_int, fIsi_bl_bool, fIsi_bl_str, fIsi_bl_tuple, fIsi_bl_list, fIsi_int_int, fIsi_int_bool, fIsi_int_str, fIsi_int_tuple, fIsi_int_list, fIsi_str_int, fIsi_str_bool, fIsi_str_str, fIsi_str_tuple, fIsi_str_list, fIsi_tup_int, fIsi_tup_bool, fIsi_tup_str, fIsi_tup_tuple, fIsi_tup_list, fIsi_lst_int, fIsi_lst_bool, fIsi_lst_str, fIsi_lst_tuple, fIsi_lst_list, isN, fIx_sy0, fIx_sy1, ite_tt, ite_ff, h0i]
      refine ⟨fun n g m' => ∃ (ps' : List (List Nat)) (ms' : List Nat), g = [some (rowD r), some (.box t), some (.box q), some (.str (tx s.w)), some (.int (s.n : Int))] ∧ St i ps' ms' m' ∧ ps'.flatten ++ aft (r.drop (i + 1)) ms' = sh r [] ∧ n = ms'.length, ⟨_, ps ++ [s.w], ms, rfl, ⟨rfl, pw, hms, hml⟩, htx, rfl⟩, ?_⟩
      rintro n g m' ⟨ps', ms', rfl, ⟨rfl, hps', hms', hml'⟩, htx', rfl⟩
      simp only [aSeq, aSet, aC, aVar, aOp, aTest, aTru, aAnd, aOr, aNot, aAndV, aOrV, aNotV, aIfE, aNil, aCons, aTup, aLst, aLstB, aUn, aCa, aSl, aNo, aPart, aM, aML, aRet, aRetN, aIf, aDo, aNext, aCont, aBrk, aAsg, aCall, aCallX, aMeth, aFld, aSetFld, aFldAug, aAug, aRaise, aMake, aYes, kName, kCons, kNil, kSub, nth, put, wipeD, asT_b, fAdd_i, fAdd_s, fAdd_t, fAdd_l, fSub_i, fLt_i, fLe_i, fGt_i, fGe_i, fMul_i, fMod_i, fFdiv_i, fPow_i, fNeg_i, fEq_i, fEq_s, fEq_b, fNe_i, fNe_s, fNe_b, fIn_s, fNi_s, fIx_t0, fIx_t1, fIx_t2, fIx_l0, fIx_l1, fSl_s, fSl_t, fSl_l, fLen_t, fLen_l, fInt_i, fAbs_i, fMax_i, fMin_i, fTuple_t, fTuple_l, fList_t, fList_l, fRepS_s, seqOf_t, seqOf_l, truD_b, truD_t, truD_l, kTup_t, fIsN_n, fIsi_non_int, fIsi_non_bool, fIsi_non_str, fIsi_non_tuple, fIsi_non_list, fIsi_bl_int, fIsi_bl_bool, fIsi_bl_str, fIsi_bl_tuple, fIsi_bl_list, fIsi_int_int, fIsi_int_bool, fIsi_int_str, fIsi_int_tuple, fIsi_int_list, fIsi_str_int, fIsi_str_bool, fIsi_str_str, fIsi_str_tuple, fIsi_str_list, fIsi_tup_int, fIsi_tup_bool, fIsi_tup_str, fIsi_tup_tuple, fIsi_tup_list, fIsi_lst_int, fIsi_lst_bool, fIsi_lst_str, fIsi_lst_tuple, fIsi_lst_list, isN, fIx_sy0, fIx_sy1, ite_tt, ite_ff, truD_x mset_same]
      cases ms' with
      | nil =>
        rw [if_neg (by simp), if_neg (by decide)]
        exact ⟨ps', [], _, _, rfl, ⟨rfl, hps', hms', by simp⟩, htx'⟩
      | cons x ms' =>
        have hx1 := hms' x List.mem_cons_self
        have hrev : (x :: ms').reverse.map numD = ms'.reverse.map numD ++ [.int (x : Int)] := by
          rw [List.reverse_cons, List.map_append]
          rfl
        have hlast : atI ((x :: ms').reverse.map numD) (-1) = some (.int (x : Int)) := by
          rw [hrev]
          exact atI_last
        have hms2 : ∀ y ∈ ms', 1 ≤ y := fun y hy => hms' y (List.mem_cons_of_mem _ hy)
        rw [List.length_cons] at hml'
        have hne2 : (!((x :: ms').reverse.map numD).isEmpty) = true := by simp
        rw [if_pos hne2]
        simp only [aSeq, aSet, aC, aVar, aOp, aTest, aTru, aAnd, aOr, aNot, aAndV, aOrV, aNotV, aIfE, aNil, aCons, aTup, aLst, aLstB, aUn, aCa, aSl, aNo, aPart, aM, aML, aRet, aRetN, aIf, aDo, aNext, aCont, aBrk, aAsg, aCall, aCallX, aMeth, aFld, aSetFld, aFldAug, aAug, aRaise, aMake, aYes, kName, kCons, kNil, kSub, nth, put, wipeD, asT_b, fAdd_i, fAdd_s, fAdd_t, fAdd_l, fSub_i, fLt_i, fLe_i, fGt_i, fGe_i, fMul_i, fMod_i, fFdiv_i, fPow_i, fNeg_i, fEq_i, fEq_s, fEq_b, fNe_i, fNe_s, fNe_b, fIn_s, fNi_s, fIx_t0, fIx_t1, fIx_t2, fIx_l0, fIx_l1, fSl_s, fSl_t, fSl_l, fLen_t, fLen_l, fInt_i, fAbs_i, fMax_i, fMin_i, fTuple_t, fTuple_l, fList_t, fList_l, fRepS_s, seqOf_t, seqOf_l, truD_b, truD_t, truD_l, kTup_t, fIsN_n, fIsi_non_int, fIsi_non_bool, fIsi_non_str, fIsi_non_tuple, fIsi_non_list, fIsi_bl_int, fIsi_bl_bool, fIsi_bl_str, fIsi_bl_tuple, fIsi_bl_list, fIsi_int_int, fIsi_int_bool, fIsi_int_str, fIsi_int_tuple, fIsi_int_list, fIsi_str_int, fIsi_str_bool, fIsi_str_str, fIsi_str_tuple, fIsi_str_list, fIsi_tup_int, fIsi_tup_bool, fIsi_tup_str, fIsi_tup_tuple, fIsi_tup_list, fIsi_lst_int, fIsi_lst_bool, fIsi_lst_str, fIsi_lst_tuple, fIsi_lst_list, isN, fIx_sy0, fIx_sy1, ite_tt, ite_ff, fIx_b mset_same hlast]
        match x, hx1, hms', hlast, hrev with
        | 1, _, hms', hlast, hrev =>
          rw [if_pos (by decide)]
          have htx2 : (ps' ++ [[41]]).flatten ++ aft (r.drop (i + 1)) ms' = sh r [] := by
            rw [fl, List.append_assoc]
            exact htx'
          simp only [aSeq, aSet, aC, aVar, aOp, aTest, aTru, aAnd, aOr, aNot, aAndV, aOrV, aNotV, aIfE, aNil, aCons, aTup, aLst, aLstB, aUn, aCa, aSl, aNo, aPart, aM, aML, aRet, aRetN, aIf, aDo, aNext, aCont, aBrk, aAsg, aCall, aCallX, aMeth, aFld, aSetFld, aFldAug, aAug, aRaise, aMake, aYes, kName, kCons, kNil, kSub, nth, put, wipeD, asT_b, fAdd_i, fAdd_s, fAdd_t, fAdd_l, fSub_i, fLt_i, fLe_i, fGt_i, fGe_i, fMul_i, fMod_i, fFdiv_i, fPow_i, fNeg_i, fEq_i, fEq_s, fEq_b, fNe_i, fNe_s, fNe_b, fIn_s, fNi_s, fIx_t0, fIx_t1, fIx_t2, fIx_l0, fIx_l1, fSl_s, fSl_t, fSl_l, fLen_t, fLen_l, fInt_i, fAbs_i, fMax_i, fMin_i, fTuple_t, fTuple_l, fList_t, fList_l, fRepS_s, seqOf_t, seqOf_l, truD_b, truD_t, truD_l, kTup_t, fIsN_n, fIsi_non_int, fIsi_non_bool, fIsi_non_str, fIsi_non_tuple, fIsi_non_list, fIsi_bl_int, fIsi_bl_bool, fIsi_bl_str, fIsi_bl_tuple, fIsi_bl_list, fIsi_int_int, fIsi_int_bool, fIsi_int_str, fIsi_int_tuple, fIsi_int_list, fIsi_str_int, fIsi_str_bool, fIsi_str_str, fIsi_str_tuple, fIsi_str_list, fIsi_tup_int, fIsi_tup_bool, fIsi_tup_str, fIsi_tup_tuple, fIsi_tup_list, fIsi_lst_int, fIsi_lst_bool, fIsi_lst_str, fIsi_lst_tuple, fIsi_lst_list, isN, fIx_sy0, fIx_sy1, ite_tt, ite_ff, isL_b (hmt _ _), fApp_b (hmt _ _), true_and, upT, isL_b mset_same, fPop_b mset_same hrev]
          have e1 : ps'.map txD ++ [.str ")"] = (ps' ++ [[41]]).map txD := md _ [41]
          rw [e1]
          refine ⟨hbig _ _ hps' htx', ms'.length, by simp, ps' ++ [[41]], ms', ⟨mset_mset, ?_, hms2, by omega⟩, htx2, rfl⟩
          intro p hp
          rcases List.mem_append.mp hp with h | h
          · exact hps' p h
          · rw [List.mem_singleton.mp h]
            decide
        | x + 2, _, hms', hlast, hrev =>
          rw [if_neg (by simp; omega)]
          have htx2 : (ps' ++ [[44]]).flatten ++ sh (r.drop (i + 1)) ((x + 1) :: ms') = sh r [] := by
            rw [fl, List.append_assoc]
            exact htx'
          have hk : ixN (((x + 2) :: ms').reverse.map numD).length (-1) = some ((((x + 2) :: ms').reverse.map numD).length - 1) := ixN_last (by simp)
          simp only [aSeq, aSet, aC, aVar, aOp, aTest, aTru, aAnd, aOr, aNot, aAndV, aOrV, aNotV, aIfE, aNil, aCons, aTup, aLst, aLstB, aUn, aCa, aSl, aNo, aPart, aM, aML, aRet, aRetN, aIf, aDo, aNext, aCont, aBrk, aAsg, aCall, aCallX, aMeth, aFld, aSetFld, aFldAug, aAug, aRaise, aMake, aYes, kName, kCons, kNil, kSub, nth, put, wipeD, asT_b, fAdd_i, fAdd_s, fAdd_t, fAdd_l, fSub_i, fLt_i, fLe_i, fGt_i, fGe_i, fMul_i, fMod_i, fFdiv_i, fPow_i, fNeg_i, fEq_i, fEq_s, fEq_b, fNe_i, fNe_s, fNe_b, fIn_s, fNi_s, fIx_t0, fIx_t1, fIx_t2, fIx_l0, fIx_l1, fSl_s, fSl_t, fSl_l, fLen_t, fLen_l, fInt_i, fAbs_i, fMax_i, fMin_i, fTuple_t, fTuple_l, fList_t, fList_l, fRepS_s, seqOf_t, seqOf_l, truD_b, truD_t, truD_l, kTup_t, fIsN_n, fIsi_non_int, fIsi_non_bool, fIsi_non_str, fIsi_non_tuple, fIsi_non_list, fIsi_bl_int, fIsi_bl_bool, fIsi_bl_str, fIsi_bl_tuple, fIsi_bl_list, fIsi_int_int, fIsi_int_bool, fIsi_int_str, fIsi_int_tuple, fIsi_int_list, fIsi_str_int, fIsi_str_bool, fIsi_str_str, fIsi_str_tuple, fIsi_str_list, fIsi_tup_int, fIsi_tup_bool, fIsi_tup_str, fIsi_tup_tuple, fIsi_tup_list, fIsi_lst_int, fIsi_lst_bool, fIsi_lst_str, fIsi_lst_tuple, fIsi_lst_list, isN, fIx_sy0, fIx_sy1, ite_tt, ite_ff, truD_x mset_same]
          rw [if_pos (by simp)]
          simp only [aSeq, aSet, aC, aVar, aOp, aTest, aTru, aAnd, aOr, aNot, aAndV, aOrV, aNotV, aIfE, aNil, aCons, aTup, aLst, aLstB, aUn, aCa, aSl, aNo, aPart, aM, aML, aRet, aRetN, aIf, aDo, aNext, aCont, aBrk, aAsg, aCall, aCallX, aMeth, aFld, aSetFld, aFldAug, aAug, aRaise, aMake, aYes, kName, kCons, kNil, kSub, nth, put, wipeD, asT_b, fAdd_i, fAdd_s, fAdd_t, fAdd_l, fSub_i, fLt_i, fLe_i, fGt_i, fGe_i, fMul_i, fMod_i, fFdiv_i, fPow_i, fNeg_i, fEq_i, fEq_s, fEq_b, fNe_i, fNe_s, fNe_b, fIn_s, fNi_s, fIx_t0, fIx_t1, fIx_t2, fIx_l0, fIx_l1, fSl_s, fSl_t, fSl_l, fLen_t, fLen_l, fInt_i, fAbs_i, fMax_i, fMin_i, fTuple_t, fTuple_l, fList_t, fList_l, fRepS_s, seqOf_t, seqOf_l, truD_b, truD_t, truD_l, kTup_t, fIsN_n, fIsi_non_int, fIsi_non_bool, fIsi_non_str, fIsi_non_tuple, fIsi_non_list, fIsi_bl_int, fIsi_bl_bool, fIsi_bl_str, fIsi_bl_tuple, fIsi_bl_list, fIsi_int_int, fIsi_int_bool, fIsi_int_str, fIsi_int_tuple, fIsi_int_list, fIsi_str_int, fIsi_str_bool, fIsi_str_str, fIsi_str_tuple, fIsi_str_list, fIsi_tup_int, fIsi_tup_bool, fIsi_tup_str, fIsi_tup_tuple, fIsi_tup_list, fIsi_lst_int, fIsi_lst_bool, fIsi_lst_str, fIsi_lst_tuple, fIsi_lst_list, isN, fIx_sy0, fIx_sy1, ite_tt, ite_ff, isL_b (hmt _ _), fApp_b (hmt _ _), true_and, upT]
          have e1 : ps'.map txD ++ [.str ","] = (ps' ++ [[44]]).map txD := md _ [44]
          rw [e1]
          refine ⟨hbig _ _ hps' htx', ?_⟩
          simp only [aAugIx, aVar, aUn, aC, nth, fNeg_i, mset_same, hlast, fSetIx_b mset_same hk]
          refine ⟨ps' ++ [[44]], (x + 1) :: ms', _, _, rfl, ⟨?_, ?_, ?_, ?_⟩, htx2⟩
          · rw [mset_mset, hrev, set_last, List.reverse_cons, List.map_append (f := numD), int_eq (show ((x + 2 : Nat) : Int) - 1 = ((x + 1 : Nat) : Int) by omega)]
            rfl
          · intro p hp
            rcases List.mem_append.mp hp with h | h
            · exact hps' p h
            · rw [List.mem_singleton.mp h]
              decide
          · intro y hy
            rcases List.mem_cons.mp hy with rfl | h
            · omega
            · exact hms2 y h
          · rw [List.length_cons]
            omega
  · rintro g m' ⟨ps, ms, a, b, rfl, ⟨rfl, hps, hms, hml⟩, htx⟩
    rw [List.length_map, List.drop_length] at htx
    have htx : ps.flatten = sh r [] := by
      rw [← htx]
      exact (List.append_nil _).symm
    have hmt : mset (mset m t (.lst (ps.map txD))) q (.lst (ms.reverse.map numD)) t = some (.lst (ps.map txD)) := by rw [mset_ne ntq, mset_same]
    simp only [aSeq, aSet, aC, aVar, aOp, aTest, aTru, aAnd, aOr, aNot, aAndV, aOrV, aNotV, aIfE, aNil, aCons, aTup, aLst, aLstB, aUn, aCa, aSl, aNo, aPart, aM, aML, aRet, aRetN, aIf, aDo, aNext, aCont, aBrk, aAsg, aCall, aCallX, aMeth, aFld, aSetFld, aFldAug, aAug, aRaise, aMake, aYes, kName, kCons, kNil, kSub, nth, put, wipeD, asT_b, fAdd_i, fAdd_s, fAdd_t, fAdd_l, fSub_i, fLt_i, fLe_i, fGt_i, fGe_i, fMul_i, fMod_i, fFdiv_i, fPow_i, fNeg_i, fEq_i, fEq_s, fEq_b, fNe_i, fNe_s, fNe_b, fIn_s, fNi_s, fIx_t0, fIx_t1, fIx_t2, fIx_l0, fIx_l1, fSl_s, fSl_t, fSl_l, fLen_t, fLen_l, fInt_i, fAbs_i, fMax_i, fMin_i, fTuple_t, fTuple_l, fList_t, fList_l, fRepS_s, seqOf_t, seqOf_l, truD_b, truD_t, truD_l, kTup_t, fIsN_n, fIsi_non_int, fIsi_non_bool, fIsi_non_str, fIsi_non_tuple, fIsi_non_list, fIsi_bl_int, fIsi_bl_bool, fIsi_bl_str, fIsi_bl_tuple, fIsi_bl_list, fIsi_int_int, fIsi_int_bool, fIsi_int_str, fIsi_int_tuple, fIsi_int_list, fIsi_str_int, fIsi_str_bool, fIsi_str_str, fIsi_str_tuple, fIsi_str_list, fIsi_tup_int, fIsi_tup_bool, fIsi_tup_str, fIsi_tup_tuple, fIsi_tup_list, fIsi_lst_int, fIsi_lst_bool, fIsi_lst_str, fIsi_lst_tuple, fIsi_lst_list, isN, fIx_sy0, fIx_sy1, ite_tt, ite_ff, aJoin, fJoin, seqOf_b hmt, strs_tx]
    refine ⟨⟨_, rfl⟩, ?_, ?_⟩
    · rw [sum_tx, htx, List.length_map]
      show (sh r []).length + ps.length * 0 ≤ _
      omega
    · rw [join_t, htx]
      exact fzE.sub ((Sub.refl.new ht).new hmq) hq
/-! ### the law's own showing -/
end AL
set_option maxHeartbeats 2000000
namespace AL
open PySem L2 Evl
variable {K : PySem.W.Frag}
/-! ### the law's own showing -/
theorem fm_if {p : Nat → Bool} : ∀ (l : List Nat), (l.filterMap fun j => if p j = true then some (numD j) else none).length = (l.filter p).length
  | [] => rfl
  | a :: l => by
    rw [List.filterMap_cons, List.filter_cons]
    cases h : p a
    · simpa using fm_if l
    · simpa using fm_if l
theorem rep_one (c n : Nat) : repS (tx [c]) (n : Int) = tx (List.replicate n c) := by
  unfold repS
  show (⟨(List.replicate (n : Int).toNat [c]).flatten.toArray⟩ : Str) = ⟨(List.replicate n c).toArray⟩
  rw [Int.toNat_natCast]
  congr 2
  induction n with
  | zero => rfl
  | succ n ih =>
    rw [List.replicate_succ, List.flatten_cons, ih]
    rfl
theorem lw_cons {F : List Sy} {s : Sy} {r : List Sy} {k : Nat} : lw F (s :: r) k = s.w ++ ((if 0 < s.n then [40] else List.replicate (ecount F k (k + 1)) 41 ++ (if k + 1 < F.length then [44] else [])) ++ lw F r (k + 1)) := rfl
theorem ecount_le {F : List Sy} {k e : Nat} : ecount F k e ≤ k := by
  unfold ecount
  have := List.length_filter_le (inE F e) (List.range k)
  rw [List.length_range] at this
  exact this
theorem fLen_row {r : List Sy} {m : Mu} {P : PD} : fLen [rowD r] m P = P (.int r.length) m := by
  have : fLen [rowD r] m P = P (.int (r.map syD).length) m := rfl
  rw [this, List.length_map]
def sp_law_shown : ASp := fun ds m P _ => ∃ (r : List Sy), ds = [rowD r] ∧ whole r ∧ r.length ≤ 1000 ∧ (sh r []).length ≤ 20000 ∧ P (.str (tx (sh r []))) m
theorem rd_law_shown : ∀ ds m Q W, sp_law_shown ds m Q W → b_law_shown sp_law_far W { nx := fun _ m' => fzE K Q .non m', rt := fzE K Q } (ds.map some ++ List.replicate (N_law_shown.length - ds.length) none) m := by
  rintro ds m Q W ⟨r, rfl, hw, hr, hl, hq⟩
  rw [← law_shows hw] at hl hq
  change b_law_shown sp_law_far W _ [some (rowD r), none, none, none, none] m
  unfold b_law_shown
  simp only [aSeq, aSet, aC, aVar, aOp, aTest, aTru, aAnd, aOr, aNot, aAndV, aOrV, aNotV, aIfE, aNil, aCons, aTup, aLst, aLstB, aUn, aCa, aSl, aNo, aPart, aM, aML, aRet, aRetN, aIf, aDo, aNext, aCont, aBrk, aAsg, aCall, aCallX, aMeth, aFld, aSetFld, aFldAug, aAug, aRaise, aMake, aYes, kName, kCons, kNil, kSub, nth, put, wipeD, asT_b, fAdd_i, fAdd_s, fAdd_t, fAdd_l, fSub_i, fLt_i, fLe_i, fGt_i, fGe_i, fMul_i, fMod_i, fFdiv_i, fPow_i, fNeg_i, fEq_i, fEq_s, fEq_b, fNe_i, fNe_s, fNe_b, fIn_s, fNi_s, fIx_t0, fIx_t1, fIx_t2, fIx_l0, fIx_l1, fSl_s, fSl_t, fSl_l, fLen_t, fLen_l, fInt_i, fAbs_i, fMax_i, fMin_i, fTuple_t, fTuple_l, fList_t, fList_l, fRepS_s, seqOf_t, seqOf_l, truD_b, truD_t, truD_l, kTup_t, fIsN_n, fIsi_non_int, fIsi_non_bool, fIsi_non_str, fIsi_non_tuple, fIsi_non_list, fIsi_bl_int, fIsi_bl_bool, fIsi_bl_str, fIsi_bl_tuple, fIsi_bl_list, fIsi_int_int, fIsi_int_bool, fIsi_int_str, fIsi_int_tuple, fIsi_int_list, fIsi_str_int, fIsi_str_bool, fIsi_str_str, fIsi_str_tuple, fIsi_str_list, fIsi_tup_int, fIsi_tup_bool, fIsi_tup_str, fIsi_tup_tuple, fIsi_tup_list, fIsi_lst_int, fIsi_lst_bool, fIsi_lst_str, fIsi_lst_tuple, fIsi_lst_list, isN, fIx_sy0, fIx_sy1, ite_tt, ite_ff, aLcR, fLen_row]
  refine ⟨by omega, by omega, fun p hp => lc_pure (fun i => if i < r.length then some (numD (endF r i)) else none) (by simp; omega) (fun _ => trivial) (fun i acc hi h => ?_) ?_⟩
  · have hi : i < r.length := by simpa using hi
    simp only [aSeq, aSet, aC, aVar, aOp, aTest, aTru, aAnd, aOr, aNot, aAndV, aOrV, aNotV, aIfE, aNil, aCons, aTup, aLst, aLstB, aUn, aCa, aSl, aNo, aPart, aM, aML, aRet, aRetN, aIf, aDo, aNext, aCont, aBrk, aAsg, aCall, aCallX, aMeth, aFld, aSetFld, aFldAug, aAug, aRaise, aMake, aYes, kName, kCons, kNil, kSub, nth, put, wipeD, asT_b, fAdd_i, fAdd_s, fAdd_t, fAdd_l, fSub_i, fLt_i, fLe_i, fGt_i, fGe_i, fMul_i, fMod_i, fFdiv_i, fPow_i, fNeg_i, fEq_i, fEq_s, fEq_b, fNe_i, fNe_s, fNe_b, fIn_s, fNi_s, fIx_t0, fIx_t1, fIx_t2, fIx_l0, fIx_l1, fSl_s, fSl_t, fSl_l, fLen_t, fLen_l, fInt_i, fAbs_i, fMax_i, fMin_i, fTuple_t, fTuple_l, fList_t, fList_l, fRepS_s, seqOf_t, seqOf_l, truD_b, truD_t, truD_l, kTup_t, fIsN_n, fIsi_non_int, fIsi_non_bool, fIsi_non_str, fIsi_non_tuple, fIsi_non_list, fIsi_bl_int, fIsi_bl_bool, fIsi_bl_str, fIsi_bl_tuple, fIsi_bl_list, fIsi_int_int, fIsi_int_bool, fIsi_int_str, fIsi_int_tuple, fIsi_int_list, fIsi_str_int, fIsi_str_bool, fIsi_str_str, fIsi_str_tuple, fIsi_str_list, fIsi_tup_int, fIsi_tup_bool, fIsi_tup_str, fIsi_tup_tuple, fIsi_tup_list, fIsi_lst_int, fIsi_lst_bool, fIsi_lst_str, fIsi_lst_tuple, fIsi_lst_list, isN, fIx_sy0, fIx_sy1, ite_tt, ite_ff]
    refine ⟨r, i, rfl, hr, whole_piece hw hi, ?_⟩
    have := pvF_yes (m := m) (p := p) h (show (if i < r.length then some (numD (endF r i)) else none) = some (numD (endF r i)) by rw [if_pos hi])
    exact this
  rw [if_pos (by trivial)]
  have hends : (List.range (r.length : Int).toNat).filterMap (fun i => if i < r.length then some (numD (endF r i)) else none) = (List.range r.length).map fun i => numD (endF r i) := by
    rw [Int.toNat_natCast]
    have := fm_map (l := List.range r.length) (f := fun i => if i < r.length then some (numD (endF r i)) else none) (g := fun i => numD (endF r i)) fun i a ha => by
      have hi : i < r.length := by simpa using (List.getElem?_eq_some_iff.mp ha).1
      have : a = i := by
        rw [List.getElem?_range hi] at ha
        exact (Option.some.inj ha).symm
      rw [if_pos hi, this]
    rw [List.length_range] at this
    exact this
  rw [hends, mdel_mset hp]
  simp only [aForR, aCons, aNil, aCa, aVar, nth, fLen_row]
  refine ⟨0, r.length, rfl, fun _ => rfl, by omega, fun k g m' => ∃ (pre : List Nat) (x y : Option D), g = [some (rowD r), some (.lst ((List.range r.length).map fun i => numD (endF r i))), some (.str (tx pre)), x, y] ∧ m' = m ∧ pre ++ lw r (r.drop k) k = lw r r 0 ∧ k ≤ r.length, ⟨[], none, none, rfl, rfl, rfl, Nat.zero_le _⟩, ?_, ?_⟩
  · rintro k g m' hk ⟨pre, x, y, rfl, rfl, htx, hkl⟩
    have hlt : k < r.length := by omega
    obtain ⟨s, hs⟩ : ∃ s, r[k]? = some s := ⟨_, List.getElem?_eq_getElem hlt⟩
    rw [drop_get hs, lw_cons] at htx
    have hlen := congrArg List.length htx
    simp only [List.length_append] at hlen
    simp only [aSeq, aSet, aC, aVar, aOp, aTest, aTru, aAnd, aOr, aNot, aAndV, aOrV, aNotV, aIfE, aNil, aCons, aTup, aLst, aLstB, aUn, aCa, aSl, aNo, aPart, aM, aML, aRet, aRetN, aIf, aDo, aNext, aCont, aBrk, aAsg, aCall, aCallX, aMeth, aFld, aSetFld, aFldAug, aAug, aRaise, aMake, aYes, kName, kCons, kNil, kSub, nth, put, wipeD, asT_b, fAdd_i, fAdd_s, fAdd_t, fAdd_l, fSub_i, fLt_i, fLe_i, fGt_i, fGe_i, fMul_i, fMod_i, fFdiv_i, fPow_i, fNeg_i, fEq_i, fEq_s, fEq_b, fNe_i, fNe_s, fNe_b, fIn_s, fNi_s, fIx_t0, fIx_t1, fIx_t2, fIx_l0, fIx_l1, fSl_s, fSl_t, fSl_l, fLen_t, fLen_l, fInt_i, fAbs_i, fMax_i, fMin_i, fTuple_t, fTuple_l, fList_t, fList_l, fRepS_s, seqOf_t, seqOf_l, truD_b, truD_t, truD_l, kTup_t, fIsN_n, fIsi_non_int, fIsi_non_bool, fIsi_non_str, fIsi_non_tuple, fIsi_non_list, fIsi_bl_int, fIsi_bl_bool, fIsi_bl_str, fIsi_bl_tuple, fIsi_bl_list, fIsi_int_int, fIsi_int_bool, fIsi_int_str, fIsi_int_tuple, fIsi_int_list, fIsi_str_int, fIsi_str_bool, fIsi_str_str, fIsi_str_tuple, fIsi_str_list, fIsi_tup_int, fIsi_tup_bool, fIsi_tup_str, fIsi_tup_tuple, fIsi_tup_list, fIsi_lst_int, fIsi_lst_bool, fIsi_lst_str, fIsi_lst_tuple, fIsi_lst_list, isN, fIx_sy0, fIx_sy1, ite_tt, ite_ff, int_eq (Int.zero_add (k : Int)), fIx_row hs, tx_app, tx_len, fLen_row, aLcR]
    refine ⟨by omega, ?_⟩
    by_cases h0 : 0 < s.n
    · have h0' : (0 : Int) < (s.n : Int) := by omega
      rw [if_pos h0] at htx hlen
      have e1 : (Str.ofString "(") = tx [40] := rfl
      simp only [aSeq, aSet, aC, aVar, aOp, aTest, aTru, aAnd, aOr, aNot, aAndV, aOrV, aNotV, aIfE, aNil, aCons, aTup, aLst, aLstB, aUn, aCa, aSl, aNo, aPart, aM, aML, aRet, aRetN, aIf, aDo, aNext, aCont, aBrk, aAsg, aCall, aCallX, aMeth, aFld, aSetFld, aFldAug, aAug, aRaise, aMake, aYes, kName, kCons, kNil, kSub, nth, put, wipeD, asT_b, fAdd_i, fAdd_s, fAdd_t, fAdd_l, fSub_i, fLt_i, fLe_i, fGt_i, fGe_i, fMul_i, fMod_i, fFdiv_i, fPow_i, fNeg_i, fEq_i, fEq_s, fEq_b, fNe_i, fNe_s, fNe_b, fIn_s, fNi_s, fIx_t0, fIx_t1, fIx_t2, fIx_l0, fIx_l1, fSl_s, fSl_t, fSl_l, fLen_t, fLen_l, fInt_i, fAbs_i, fMax_i, fMin_i, fTuple_t, fTuple_l, fList_t, fList_l, fRepS_s, seqOf_t, seqOf_l, truD_b, truD_t, truD_l, kTup_t, fIsN_n, fIsi_non_int, fIsi_non_bool, fIsi_non_str, fIsi_non_tuple, fIsi_non_list, fIsi_bl_int, fIsi_bl_bool, fIsi_bl_str, fIsi_bl_tuple, fIsi_bl_list, fIsi_int_int, fIsi_int_bool, fIsi_int_str, fIsi_int_tuple, fIsi_int_list, fIsi_str_int, fIsi_str_bool, fIsi_str_str, fIsi_str_tuple, fIsi_str_list, fIsi_tup_int, fIsi_tup_bool, fIsi_tup_str, fIsi_tup_tuple, fIsi_tup_list, fIsi_lst_int, fIsi_lst_bool, fIsi_lst_str, fIsi_lst_tuple, fIsi_lst_list, isN, fIx_sy0, fIx_sy1, ite_tt, ite_ff, decide_eq_true h0', e1, tx_app, tx_len]
      refine ⟨by simp at hlen ⊢; omega, pre ++ s.w ++ [40], _, _, rfl, by trivial, ?_, hlt⟩
      rw [← htx]
      simp only [List.append_assoc]
    · have h0' : ¬(0 : Int) < (s.n : Int) := by omega
      rw [if_neg h0] at htx hlen
      simp only [aSeq, aSet, aC, aVar, aOp, aTest, aTru, aAnd, aOr, aNot, aAndV, aOrV, aNotV, aIfE, aNil, aCons, aTup, aLst, aLstB, aUn, aCa, aSl, aNo, aPart, aM, aML, aRet, aRetN, aIf, aDo, aNext, aCont, aBrk, aAsg, aCall, aCallX, aMeth, aFld, aSetFld, aFldAug, aAug, aRaise, aMake, aYes, kName, kCons, kNil, kSub, nth, put, wipeD, asT_b, fAdd_i, fAdd_s, fAdd_t, fAdd_l, fSub_i, fLt_i, fLe_i, fGt_i, fGe_i, fMul_i, fMod_i, fFdiv_i, fPow_i, fNeg_i, fEq_i, fEq_s, fEq_b, fNe_i, fNe_s, fNe_b, fIn_s, fNi_s, fIx_t0, fIx_t1, fIx_t2, fIx_l0, fIx_l1, fSl_s, fSl_t, fSl_l, fLen_t, fLen_l, fInt_i, fAbs_i, fMax_i, fMin_i, fTuple_t, fTuple_l, fList_t, fList_l, fRepS_s, seqOf_t, seqOf_l, truD_b, truD_t, truD_l, kTup_t, fIsN_n, fIsi_non_int, fIsi_non_bool, fIsi_non_str, fIsi_non_tuple, fIsi_non_list, fIsi_bl_int, fIsi_bl_bool, fIsi_bl_str, fIsi_bl_tuple, fIsi_bl_list, fIsi_int_int, fIsi_int_bool, fIsi_int_str, fIsi_int_tuple, fIsi_int_list, fIsi_str_int, fIsi_str_bool, fIsi_str_str, fIsi_str_tuple, fIsi_str_list, fIsi_tup_int, fIsi_tup_bool, fIsi_tup_str, fIsi_tup_tuple, fIsi_tup_list, fIsi_lst_int, fIsi_lst_bool, fIsi_lst_str, fIsi_lst_tuple, fIsi_lst_list, isN, fIx_sy0, fIx_sy1, ite_tt, ite_ff, decide_eq_false h0']
      refine ⟨by omega, by omega, fun p hp => lc_pure (fun j => if inE r (k + 1) j = true then some (numD j) else none) (by simp; omega) (fun _ => trivial) (fun j acc hj h => ?_) ?_⟩
      · have hj : j < k := by simpa using hj
        obtain ⟨sj, hsj⟩ : ∃ s, r[j]? = some s := ⟨_, List.getElem?_eq_getElem (show j < r.length by omega)⟩
        have hej : atI ((List.range r.length).map fun i => numD (endF r i)) (j : Int) = some (.int ((endF r j : Nat) : Int)) := by
          apply atI_nn
          rw [List.getElem?_map, List.getElem?_range (by omega)]
          rfl
        simp only [aSeq, aSet, aC, aVar, aOp, aTest, aTru, aAnd, aOr, aNot, aAndV, aOrV, aNotV, aIfE, aNil, aCons, aTup, aLst, aLstB, aUn, aCa, aSl, aNo, aPart, aM, aML, aRet, aRetN, aIf, aDo, aNext, aCont, aBrk, aAsg, aCall, aCallX, aMeth, aFld, aSetFld, aFldAug, aAug, aRaise, aMake, aYes, kName, kCons, kNil, kSub, nth, put, wipeD, asT_b, fAdd_i, fAdd_s, fAdd_t, fAdd_l, fSub_i, fLt_i, fLe_i, fGt_i, fGe_i, fMul_i, fMod_i, fFdiv_i, fPow_i, fNeg_i, fEq_i, fEq_s, fEq_b, fNe_i, fNe_s, fNe_b, fIn_s, fNi_s, fIx_t0, fIx_t1, fIx_t2, fIx_l0, fIx_l1, fSl_s, fSl_t, fSl_l, fLen_t, fLen_l, fInt_i, fAbs_i, fMax_i, fMin_i, fTuple_t, fTuple_l, fList_t, fList_l, fRepS_s, seqOf_t, seqOf_l, truD_b, truD_t, truD_l, kTup_t, fIsN_n, fIsi_non_int, fIsi_non_bool, fIsi_non_str, fIsi_non_tuple, fIsi_non_list, fIsi_bl_int, fIsi_bl_bool, fIsi_bl_str, fIsi_bl_tuple, fIsi_bl_list, fIsi_int_int, fIsi_int_bool, fIsi_int_str, fIsi_int_tuple, fIsi_int_list, fIsi_str_int, fIsi_str_bool, fIsi_str_str, fIsi_str_tuple, fIsi_str_list, fIsi_tup_int, fIsi_tup_bool, fIsi_tup_str, fIsi_tup_tuple, fIsi_tup_list, fIsi_lst_int, fIsi_lst_bool, fIsi_lst_str, fIsi_lst_tuple, fIsi_lst_list, isN, fIx_sy0, fIx_sy1, ite_tt, ite_ff, fIx_row hsj, fIx_l hej]
        have hin : inE r (k + 1) j = (decide (0 < cnt r j) && decide (endF r j = k + 1)) := rfl
        rw [cnt_of hsj] at hin
        by_cases a1 : 0 < sj.n
        · rw [if_pos (decide_eq_true (by omega))]
          by_cases a2 : endF r j = k + 1
          · rw [if_pos (decide_eq_true (by omega))]
            exact pvF_yes h (by rw [if_pos (by rw [hin]; simp [a1, a2])]; rfl)
          · rw [if_neg (by simp; omega)]
            exact pvF_no h (by rw [if_neg (by rw [hin]; simp [a2])])
        · rw [if_neg (by simp; omega)]
          exact pvF_no h (by rw [if_neg (by rw [hin]; simp; omega)])
      · rw [if_pos (by trivial), mdel_mset hp]
        have hc : ((List.range (k : Int).toNat).filterMap fun j => if inE r (k + 1) j = true then some (numD j) else none).length = ecount r k (k + 1) := by
          rw [Int.toNat_natCast, fm_if]
          rfl
        have e1 : (Str.ofString ")") = tx [41] := rfl
        have hle := ecount_le (F := r) (k := k) (e := k + 1)
        simp only [List.length_append, List.length_replicate] at hlen
        simp only [aSeq, aSet, aC, aVar, aOp, aTest, aTru, aAnd, aOr, aNot, aAndV, aOrV, aNotV, aIfE, aNil, aCons, aTup, aLst, aLstB, aUn, aCa, aSl, aNo, aPart, aM, aML, aRet, aRetN, aIf, aDo, aNext, aCont, aBrk, aAsg, aCall, aCallX, aMeth, aFld, aSetFld, aFldAug, aAug, aRaise, aMake, aYes, kName, kCons, kNil, kSub, nth, put, wipeD, asT_b, fAdd_i, fAdd_s, fAdd_t, fAdd_l, fSub_i, fLt_i, fLe_i, fGt_i, fGe_i, fMul_i, fMod_i, fFdiv_i, fPow_i, fNeg_i, fEq_i, fEq_s, fEq_b, fNe_i, fNe_s, fNe_b, fIn_s, fNi_s, fIx_t0, fIx_t1, fIx_t2, fIx_l0, fIx_l1, fSl_s, fSl_t, fSl_l, fLen_t, fLen_l, fInt_i, fAbs_i, fMax_i, fMin_i, fTuple_t, fTuple_l, fList_t, fList_l, fRepS_s, seqOf_t, seqOf_l, truD_b, truD_t, truD_l, kTup_t, fIsN_n, fIsi_non_int, fIsi_non_bool, fIsi_non_str, fIsi_non_tuple, fIsi_non_list, fIsi_bl_int, fIsi_bl_bool, fIsi_bl_str, fIsi_bl_tuple, fIsi_bl_list, fIsi_int_int, fIsi_int_bool, fIsi_int_str, fIsi_int_tuple, fIsi_int_list, fIsi_str_int, fIsi_str_bool, fIsi_str_str, fIsi_str_tuple, fIsi_str_list, fIsi_tup_int, fIsi_tup_bool, fIsi_tup_str, fIsi_tup_tuple, fIsi_tup_list, fIsi_lst_int, fIsi_lst_bool, fIsi_lst_str, fIsi_lst_tuple, fIsi_lst_list, isN, fIx_sy0, fIx_sy1, ite_tt, ite_ff, hc, e1, rep_one, tx_app, tx_len]
        refine ⟨⟨by omega, by omega, by decide⟩, by simp; omega, ?_⟩
        by_cases h1 : k + 1 < r.length
        · rw [if_pos h1] at htx hlen
          have e2 : (Str.ofString ",") = tx [44] := rfl
          rw [if_pos (decide_eq_true (by omega))]
          simp only [aSeq, aSet, aC, aVar, aOp, aTest, aTru, aAnd, aOr, aNot, aAndV, aOrV, aNotV, aIfE, aNil, aCons, aTup, aLst, aLstB, aUn, aCa, aSl, aNo, aPart, aM, aML, aRet, aRetN, aIf, aDo, aNext, aCont, aBrk, aAsg, aCall, aCallX, aMeth, aFld, aSetFld, aFldAug, aAug, aRaise, aMake, aYes, kName, kCons, kNil, kSub, nth, put, wipeD, asT_b, fAdd_i, fAdd_s, fAdd_t, fAdd_l, fSub_i, fLt_i, fLe_i, fGt_i, fGe_i, fMul_i, fMod_i, fFdiv_i, fPow_i, fNeg_i, fEq_i, fEq_s, fEq_b, fNe_i, fNe_s, fNe_b, fIn_s, fNi_s, fIx_t0, fIx_t1, fIx_t2, fIx_l0, fIx_l1, fSl_s, fSl_t, fSl_l, fLen_t, fLen_l, fInt_i, fAbs_i, fMax_i, fMin_i, fTuple_t, fTuple_l, fList_t, fList_l, fRepS_s, seqOf_t, seqOf_l, truD_b, truD_t, truD_l, kTup_t, fIsN_n, fIsi_non_int, fIsi_non_bool, fIsi_non_str, fIsi_non_tuple, fIsi_non_list, fIsi_bl_int, fIsi_bl_bool, fIsi_bl_str, fIsi_bl_tuple, fIsi_bl_list, fIsi_int_int, fIsi_int_bool, fIsi_int_str, fIsi_int_tuple, fIsi_int_list, fIsi_str_int, fIsi_str_bool, fIsi_str_str, fIsi_str_tuple, fIsi_str_list, fIsi_tup_int, fIsi_tup_bool, fIsi_tup_str, fIsi_tup_tuple, fIsi_tup_list, fIsi_lst_int, fIsi_lst_bool, fIsi_lst_str, fIsi_lst_tuple, fIsi_lst_list, isN, fIx_sy0, fIx_sy1, ite_tt, ite_ff, e2, tx_app, tx_len]
          refine ⟨by simp at hlen ⊢; omega, pre ++ s.w ++ List.replicate (ecount r k (k + 1)) 41 ++ [44], _, _, rfl, by trivial, ?_, hlt⟩
          rw [← htx]
          simp only [List.append_assoc]
        · rw [if_neg h1] at htx
          rw [if_neg (by simp; omega)]
          refine ⟨pre ++ s.w ++ List.replicate (ecount r k (k + 1)) 41, _, _, rfl, by trivial, ?_, hlt⟩
          rw [← htx]
          simp only [List.append_assoc, List.append_nil]
  · rintro g m' ⟨pre, x, y, rfl, rfl, htx, hkl⟩
    have e : ((r.length : Int) - 0).toNat = r.length := by omega
    rw [e, List.drop_length] at htx
    have htx : pre = lw r r 0 := by
      rw [← htx]
      exact (List.append_nil _).symm
    simp only [aSeq, aSet, aC, aVar, aOp, aTest, aTru, aAnd, aOr, aNot, aAndV, aOrV, aNotV, aIfE, aNil, aCons, aTup, aLst, aLstB, aUn, aCa, aSl, aNo, aPart, aM, aML, aRet, aRetN, aIf, aDo, aNext, aCont, aBrk, aAsg, aCall, aCallX, aMeth, aFld, aSetFld, aFldAug, aAug, aRaise, aMake, aYes, kName, kCons, kNil, kSub, nth, put, wipeD, asT_b, fAdd_i, fAdd_s, fAdd_t, fAdd_l, fSub_i, fLt_i, fLe_i, fGt_i, fGe_i, fMul_i, fMod_i, fFdiv_i, fPow_i, fNeg_i, fEq_i, fEq_s, fEq_b, fNe_i, fNe_s, fNe_b, fIn_s, fNi_s, fIx_t0, fIx_t1, fIx_t2, fIx_l0, fIx_l1, fSl_s, fSl_t, fSl_l, fLen_t, fLen_l, fInt_i, fAbs_i, fMax_i, fMin_i, fTuple_t, fTuple_l, fList_t, fList_l, fRepS_s, seqOf_t, seqOf_l, truD_b, truD_t, truD_l, kTup_t, fIsN_n, fIsi_non_int, fIsi_non_bool, fIsi_non_str, fIsi_non_tuple, fIsi_non_list, fIsi_bl_int, fIsi_bl_bool, fIsi_bl_str, fIsi_bl_tuple, fIsi_bl_list, fIsi_int_int, fIsi_int_bool, fIsi_int_str, fIsi_int_tuple, fIsi_int_list, fIsi_str_int, fIsi_str_bool, fIsi_str_str, fIsi_str_tuple, fIsi_str_list, fIsi_tup_int, fIsi_tup_bool, fIsi_tup_str, fIsi_tup_tuple, fIsi_tup_list, fIsi_lst_int, fIsi_lst_bool, fIsi_lst_str, fIsi_lst_tuple, fIsi_lst_list, isN, fIx_sy0, fIx_sy1, ite_tt, ite_ff]
    rw [htx]
    exact fzE.of hq
end AL
set_option maxHeartbeats 4000000
namespace AL
open PySem L2 Evl
variable {K : PySem.W.Frag}
/-! ### entries [word, many] -/
def entO (s : Sy) : MO := .lst [.str (tx s.w), .int (s.n : Int)]
structure Ents (m0 m : Mu) (r : Addr) (bs : List Addr) (row : List Sy) : Prop where
  lst : m r = some (.lst (bs.map .box))
  len : bs.length = row.length
  ent : ∀ (i : Nat) (b : Addr) (s : Sy), bs[i]? = some b → row[i]? = some s → m b = some (entO s)
  nd : bs.Nodup
  ap : r ∉ bs
  new : ∀ b ∈ bs, m0 b = none
section
variable {m0 m m' : Mu} {r b : Addr} {bs : List Addr} {row : List Sy} {s : Sy} {i : Nat} {o : MO}
theorem Ents.at_ (h : Ents m0 m r bs row) (hs : row[i]? = some s) : ∃ b, bs[i]? = some b ∧ b ∈ bs ∧ b ≠ r ∧ m b = some (entO s) := by
  have hl : i < bs.length := by
    rw [h.len]
    exact lt_of hs
  have hb := List.getElem?_eq_getElem hl
  exact ⟨bs[i], hb, List.getElem_mem hl, fun z => h.ap (by rw [← z]; exact List.getElem_mem hl), h.ent i _ s hb hs⟩
theorem Ents.frame (h : Ents m0 m r bs row) (e : ∀ x, x = r ∨ x ∈ bs → m' x = m x) : Ents m0 m' r bs row :=
  ⟨(e r (.inl rfl)).trans h.lst, h.len, fun i b s hb hs => (e b (.inr (List.mem_of_getElem? hb))).trans (h.ent i b s hb hs), h.nd, h.ap, h.new⟩
theorem Ents.other (h : Ents m0 m r bs row) (h1 : b ≠ r) (h2 : b ∉ bs) : Ents m0 (mset m b o) r bs row := h.frame fun x hx => by
  refine mset_ne fun z => ?_
  subst z
  rcases hx with hx | hx
  · exact h1 hx
  · exact h2 hx
theorem Ents.add (h : Ents m0 m r bs row) (sub : Sub m0 m) (hb : m b = none) : Ents m0 (mset (mset m b (entO s)) r (.lst (bs.map .box ++ [.box b]))) r (bs ++ [b]) (row ++ [s]) ∧ b ∉ bs ∧ b ≠ r := by
  have hr : b ≠ r := fun z => by
    rw [z, h.lst] at hb
    cases hb
  have hn : b ∉ bs := fun z => by
    obtain ⟨i, hi⟩ := List.getElem?_of_mem z
    obtain ⟨s, hs⟩ : ∃ s, row[i]? = some s := ⟨_, List.getElem?_eq_getElem (by rw [← h.len]; exact (List.getElem?_eq_some_iff.mp hi).1)⟩
    rw [h.ent i b s hi hs] at hb
    cases hb
  refine ⟨⟨by rw [mset_same, List.map_append] <;> rfl, by simp [h.len], fun i c t hc ht => ?_, ?_, ?_, ?_⟩, hn, hr⟩
  · have hl := lt_of ht
    rw [List.length_append, List.length_singleton] at hl
    by_cases z : i = row.length
    · subst z
      rw [app_last] at ht
      cases ht
      rw [← h.len, app_last] at hc
      cases hc
      rw [mset_ne hr, mset_same]
    · rw [app_get (by omega)] at ht
      rw [app_get (by rw [h.len]; omega)] at hc
      have hm := List.mem_of_getElem? hc
      rw [mset_ne (fun z => h.ap (by rw [← z]; exact hm)), mset_ne (fun z => hn (by rw [← z]; exact hm))]
      exact h.ent i c t hc ht
  · rw [List.nodup_append]
    exact ⟨h.nd, by simp, fun a ha c hc => by rw [List.mem_singleton.mp hc]; exact fun z => hn (by rw [← z]; exact ha)⟩
  · intro z
    rcases List.mem_append.mp z with z | z
    · exact h.ap z
    · exact hr (List.mem_singleton.mp z).symm
  · intro c hc
    rcases List.mem_append.mp hc with z | z
    · exact h.new c z
    · rw [List.mem_singleton.mp z]
      exact sub.non hb
theorem Ents.upd {f : Sy → Sy} (h : Ents m0 m r bs row) (hs : row[i]? = some s) (hb : bs[i]? = some b) : Ents m0 (mset m b (entO (f s))) r bs (modS f row i) := by
  have hm := List.mem_of_getElem? hb
  have hl := lt_of hs
  refine ⟨by rw [mset_ne (fun z => h.ap (by rw [z]; exact hm))]; exact h.lst, by rw [modS_len]; exact h.len, fun j c t hc ht => ?_, h.nd, h.ap, h.new⟩
  by_cases z : j = i
  · subst z
    rw [modS_same hs] at ht
    cases ht
    rw [hb] at hc
    cases hc
    exact mset_same
  · rw [modS_ne z] at ht
    have : c ≠ b := fun y => by
      have hj : j < bs.length := (List.getElem?_eq_some_iff.mp hc).1
      have hi : i < bs.length := (List.getElem?_eq_some_iff.mp hb).1
      have e1 : bs[j] = c := (List.getElem?_eq_some_iff.mp hc).2
      have e2 : bs[i] = b := (List.getElem?_eq_some_iff.mp hb).2
      exact z ((List.getElem_inj h.nd).mp (by rw [e1, e2, y]))
    rw [mset_ne this]
    exact h.ent j c t hc ht
end
/-! ### the law's own reading -/
def resD : Rs → D
  | .ok F => .tup [.str "told", rowD F]
  | .err k => .tup [.str "raised", .bl true, .int 0, .int (k : Int)]
def phD : Nat → D
  | 0 => .int 0
  | 1 => .int 1
  | _ => .int 2
theorem mem_low {c : Nat} : decide (c ∈ (Str.ofString "abcdefghijklmnopqrstuvwxyz").cps.toList) = decide (low c) := by
  have : (Str.ofString "abcdefghijklmnopqrstuvwxyz").cps.toList = [97, 98, 99, 100, 101, 102, 103, 104, 105, 106, 107, 108, 109, 110, 111, 112, 113, 114, 115, 116, 117, 118, 119, 120, 121, 122] := by rfl
  rw [this]
  apply decide_eq_decide.mpr
  unfold low
  simp only [List.mem_cons, List.not_mem_nil, or_false]
  omega
theorem mem_wsg {c : Nat} : decide (c ∈ (Str.ofString "abcdefghijklmnopqrstuvwxyz" ++ Str.ofString "0123456789-").cps.toList) = decide (wsg c) := by
  have : (Str.ofString "abcdefghijklmnopqrstuvwxyz" ++ Str.ofString "0123456789-").cps.toList = [97, 98, 99, 100, 101, 102, 103, 104, 105, 106, 107, 108, 109, 110, 111, 112, 113, 114, 115, 116, 117, 118, 119, 120, 121, 122, 48, 49, 50, 51, 52, 53, 54, 55, 56, 57, 45] := by rfl
  rw [this]
  apply decide_eq_decide.mpr
  unfold wsg low
  simp only [List.mem_cons, List.not_mem_nil, or_false]
  omega
theorem dq_sg {c d : Nat} {z : Str} (hz : z = tx [d]) : decide ((⟨#[c]⟩ : Str) = z) = decide (c = d) := by
  apply decide_eq_decide.mpr
  rw [hz]
  show tx [c] = tx [d] ↔ _
  rw [tx_inj]
  simp
theorem dq_dot {c : Nat} : decide ((⟨#[c]⟩ : Str) = Str.ofString ".") = decide (c = 46) := dq_sg rfl
theorem dq_que {c : Nat} : decide ((⟨#[c]⟩ : Str) = Str.ofString "?") = decide (c = 63) := dq_sg rfl
theorem dq_opn {c : Nat} : decide ((⟨#[c]⟩ : Str) = Str.ofString "(") = decide (c = 40) := dq_sg rfl
theorem dq_cls {c : Nat} : decide ((⟨#[c]⟩ : Str) = Str.ofString ")") = decide (c = 41) := dq_sg rfl
theorem dq_com {c : Nat} : decide ((⟨#[c]⟩ : Str) = Str.ofString ",") = decide (c = 44) := dq_sg rfl
theorem dq_emp {c : Nat} : decide ((⟨#[c]⟩ : Str) = Str.ofString "") = false := by
  apply decide_eq_false
  intro h
  have : tx [c] = tx [] := h
  rw [tx_inj] at this
  cases this
theorem phD0 : phD 0 = .int 0 := rfl
theorem phD1 : phD 1 = .int 1 := rfl
theorem phD2 : phD 2 = .int 2 := rfl
theorem fIx_ent0 {m : Mu} {b : Addr} {s : Sy} {P : PD} (h : m b = some (entO s)) : fIx (.box b) (.int 0) m P = P (.str (tx s.w)) m := fIx_b h rfl
theorem fIx_ent1 {m : Mu} {b : Addr} {s : Sy} {P : PD} (h : m b = some (entO s)) : fIx (.box b) (.int 1) m P = P (.int (s.n : Int)) m := fIx_b h rfl
theorem at_num {st : List Nat} {i : Nat} : atI ((i :: st).reverse.map numD) (-1) = some (.int (i : Int)) := by
  rw [List.reverse_cons, List.map_append]
  exact atI_last
theorem at_lastB {bs : List Addr} {b : Addr} (h : bs[bs.length - 1]? = some b) : atI (bs.map D.box) (-1) = some (.box b) := by
  have hl := (List.getElem?_eq_some_iff.mp h).1
  unfold atI
  rw [List.length_map, ixN_last (by omega)]
  show (bs.map D.box)[bs.length - 1]? = _
  rw [List.getElem?_map, h]
  rfl
end AL
set_option maxHeartbeats 4000000
namespace AL
open PySem L2 Evl
variable {K : PySem.W.Frag}
section
variable {h : Bool} {c ph i k : Nat} {row : List Sy} {st : List Nat} {t : List Nat}
theorem nxt0a (h1 : low c) : nxt h c 0 row st = some (1, row ++ [⟨[c], 0⟩], st) := by
  unfold nxt
  rw [if_pos rfl, if_pos h1]
theorem nxt0b (h1 : ¬low c) (h2 : c = 46 ∨ (h = true ∧ c = 63)) : nxt h c 0 row st = some (2, row ++ [⟨[c], 0⟩], st) := by
  unfold nxt
  rw [if_pos rfl, if_neg h1, if_pos h2]
theorem nxt0n (h1 : ¬low c) (h2 : ¬(c = 46 ∨ (h = true ∧ c = 63))) : nxt h c 0 row st = none := by
  unfold nxt
  rw [if_pos rfl, if_neg h1, if_neg h2]
theorem nxt1w (h1 : wsg c) (h2 : wl row (row.length - 1) < 16) : nxt h c 1 row st = some (1, modS (addS c) row (row.length - 1), st) := by
  unfold nxt
  rw [if_neg (by decide), if_pos ⟨rfl, h1, h2⟩]
theorem nxt1o : nxt h 40 1 row st = some (0, modS oneS row (row.length - 1), (row.length - 1) :: st) := by
  unfold nxt
  rw [if_neg (by decide), if_neg (fun z => absurd z.2.1 (by decide)), if_pos ⟨rfl, rfl⟩]
theorem nxt_nil (hp : ph ≠ 0) (h1 : ph = 1 → ¬(wsg c ∧ wl row (row.length - 1) < 16) ∧ c ≠ 40) : nxt h c ph row [] = none := by
  unfold nxt
  rw [if_neg hp, if_neg (fun z => (h1 z.1).1 z.2), if_neg (fun z => (h1 z.1).2 z.2)]
theorem nxt_com (hp : ph ≠ 0) (hc : cnt row i < 4) : nxt h 44 ph row (i :: st) = some (0, modS incS row i, i :: st) := by
  unfold nxt
  rw [if_neg hp, if_neg (fun z => absurd z.2.1 (by decide)), if_neg (fun z => absurd z.2 (by decide))]
  show (if (44 = 44 ∧ cnt row i < 4) then some (0, modS incS row i, i :: st) else if (44 = 41) then some (2, row, st) else none) = _
  rw [if_pos ⟨rfl, hc⟩]
theorem nxt_cls (hp : ph ≠ 0) : nxt h 41 ph row (i :: st) = some (2, row, st) := by
  unfold nxt
  rw [if_neg hp, if_neg (fun z => absurd z.2.1 (by decide)), if_neg (fun z => absurd z.2 (by decide))]
  show (if (41 = 44 ∧ cnt row i < 4) then some (0, modS incS row i, i :: st) else if (41 = 41) then some (2, row, st) else none) = _
  rw [if_neg (fun z => absurd z.1 (by decide)), if_pos rfl]
theorem nxt_no (hp : ph ≠ 0) (h1 : ph = 1 → ¬(wsg c ∧ wl row (row.length - 1) < 16) ∧ c ≠ 40) (h2 : ¬(c = 44 ∧ cnt row i < 4)) (h3 : c ≠ 41) : nxt h c ph row (i :: st) = none := by
  unfold nxt
  rw [if_neg hp, if_neg (fun z => (h1 z.1).1 z.2), if_neg (fun z => (h1 z.1).2 z.2)]
  show (if (c = 44 ∧ cnt row i < 4) then some (0, modS incS row i, i :: st) else if (c = 41) then some (2, row, st) else none) = _
  rw [if_neg h2, if_neg h3]
theorem rdm_none (e : nxt h c ph row st = none) : rdm h (c :: t) ph row st k = .err k := by
  show (match nxt h c ph row st with
    | none => Rs.err k
    | some (ph', row', st') => rdm h t ph' row' st' (k + 1)) = _
  rw [e]
end
def sp_law_read : ASp := fun ds m P _ => ∃ (t : List Nat) (h : Bool), ds = [.str (tx t), .bl h] ∧ t.length ≤ 20000 ∧ P (resD (rdm h t 0 [] [] 0)) m
/-- what the law's reading has at hand -/
structure Jr (m0 m : Mu) (r a : Addr) (bs : List Addr) (row : List Sy) (st : List Nat) (ph k : Nat) : Prop where
  iv : Iv row st ph
  en : Ents m0 m r bs row
  ar : m a = some (.lst (st.reverse.map numD))
  na : a ∉ bs
  sub : Sub m0 m
  rl : row.length ≤ k
  sl : st.length ≤ k
  wd : ∀ s ∈ row, s.w.length ≤ 16
theorem wd_mod {f : Sy → Sy} {row : List Sy} {i : Nat} (h : ∀ s ∈ row, s.w.length ≤ 16) (hf : ∀ s, row[i]? = some s → (f s).w.length ≤ 16) : ∀ s ∈ modS f row i, s.w.length ≤ 16 := by
  intro s hs
  obtain ⟨j, hj⟩ := List.getElem?_of_mem hs
  by_cases z : j = i
  · subst z
    cases e : row[j]? with
    | none =>
      have h1 : row.length ≤ j := List.getElem?_eq_none_iff.mp e
      have h2 := (List.getElem?_eq_some_iff.mp hj).1
      rw [modS_len] at h2
      omega
    | some q =>
      rw [modS_same e] at hj
      cases hj
      exact hf q e
  · rw [modS_ne z] at hj
    exact h s (List.mem_of_getElem? hj)
theorem wl_of {row : List Sy} {i : Nat} {s : Sy} (h : row[i]? = some s) : wl row i = s.w.length := by
  unfold wl
  rw [h]
theorem rd_law_read : ∀ ds m Q W, sp_law_read ds m Q W → b_law_read W { nx := fun _ m' => fzE K Q .non m', rt := fzE K Q } (ds.map some ++ List.replicate (N_law_read.length - ds.length) none) m := by
  rintro ds m Q W ⟨t, h, rfl, hl, hq⟩
  change b_law_read W _ [some (.str (tx t)), some (.bl h), none, none, none, none, none, none, none] m
  unfold b_law_read
  have tl : (tx t).length ≤ 1000000 := by
    rw [tx_len]
    omega
  simp only [aSeq, aSet, aC, aVar, aOp, aTest, aTru, aAnd, aOr, aNot, aAndV, aOrV, aNotV, aIfE, aNil, aCons, aTup, aLst, aLstB, aUn, aCa, aSl, aNo, aPart, aM, aML, aRet, aRetN, aIf, aDo, aNext, aCont, aBrk, aAsg, aCall, aCallX, aMeth, aFld, aSetFld, aFldAug, aAug, aRaise, aMake, aYes, kName, kCons, kNil, kSub, nth, put, wipeD, asT_b, fAdd_i, fAdd_s, fAdd_t, fAdd_l, fSub_i, fLt_i, fLe_i, fGt_i, fGe_i, fMul_i, fMod_i, fFdiv_i, fPow_i, fNeg_i, fEq_i, fEq_s, fEq_b, fNe_i, fNe_s, fNe_b, fIn_s, fNi_s, fIx_t0, fIx_t1, fIx_t2, fIx_l0, fIx_l1, fSl_s, fSl_t, fSl_l, fLen_t, fLen_l, fInt_i, fAbs_i, fMax_i, fMin_i, fTuple_t, fTuple_l, fList_t, fList_l, fRepS_s, seqOf_t, seqOf_l, truD_b, truD_t, truD_l, kTup_t, fIsN_n, fIsi_non_int, fIsi_non_bool, fIsi_non_str, fIsi_non_tuple, fIsi_non_list, fIsi_bl_int, fIsi_bl_bool, fIsi_bl_str, fIsi_bl_tuple, fIsi_bl_list, fIsi_int_int, fIsi_int_bool, fIsi_int_str, fIsi_int_tuple, fIsi_int_list, fIsi_str_int, fIsi_str_bool, fIsi_str_str, fIsi_str_tuple, fIsi_str_list, fIsi_tup_int, fIsi_tup_bool, fIsi_tup_str, fIsi_tup_tuple, fIsi_tup_list, fIsi_lst_int, fIsi_lst_bool, fIsi_lst_str, fIsi_lst_tuple, fIsi_lst_list, isN, fIx_sy0, fIx_sy1, ite_tt, ite_ff]
  refine ⟨by decide, fun r hr => ⟨by decide, fun a ha => ?_⟩⟩
  have nra : r ≠ a := fun z => by
    rw [← z, mset_same] at ha
    cases ha
  have ha0 : m a = none := by
    rw [mset_ne nra.symm] at ha
    exact ha
  simp only [aForR, aCons, aNil, aCa, aVar, nth, fLen_s tl, tx_len]
  refine ⟨0, t.length, rfl, fun _ => rfl, by omega, fun k g m' => ∃ (ph : Nat) (row : List Sy) (st : List Nat) (bs : List Addr) (x y : Option D), g = [some (.str (tx t)), some (.bl h), some (.str "abcdefghijklmnopqrstuvwxyz"), some (.box r), some (.box a), some (phD ph), x, y, none] ∧ Jr m m' r a bs row st ph k ∧ rdm h (t.drop k) ph row st k = rdm h t 0 [] [] 0 ∧ k ≤ t.length,
    ⟨0, [], [], [], none, none, rfl, ⟨⟨fun _ z => (by cases z), List.nodup_nil, fun z => (by cases z), by decide⟩, ⟨by rw [mset_ne nra, mset_same]; rfl, rfl, fun i b s h1 => by simp at h1, List.nodup_nil, by simp, by simp⟩, mset_same, by simp, (Sub.refl.new hr).new ha0, Nat.le_refl _, Nat.le_refl _, fun _ z => (by cases z)⟩, rfl, Nat.zero_le _⟩, ?_, ?_⟩
  · rintro k g m' hk ⟨ph, row, st, bs, x, y, rfl, J, hrd, hkl⟩
    have hlt : k < t.length := by omega
    obtain ⟨c, hc⟩ : ∃ c, t[k]? = some c := ⟨_, List.getElem?_eq_getElem hlt⟩
    have hat : atI (tx t).cps.toList (0 + (k : Int)) = some c := by
      rw [tx_cps, Int.zero_add]
      exact atI_nn hc
    rw [drop_get hc] at hrd
    -- the turn that goes on
    have on : ∀ (ph' : Nat) (row' : List Sy) (st' : List Nat) (bs' : List Addr) (m2 : Mu) (x y : Option D), nxt h c ph row st = some (ph', row', st') → Ents m m2 r bs' row' → m2 a = some (.lst (st'.reverse.map numD)) → a ∉ bs' → Sub m m2 → (∀ s ∈ row', s.w.length ≤ 16) →
        ∃ (ph2 : Nat) (row2 : List Sy) (st2 : List Nat) (bs2 : List Addr) (x' y' : Option D), [some (.str (tx t)), some (.bl h), some (.str "abcdefghijklmnopqrstuvwxyz"), some (.box r), some (.box a), some (phD ph'), x, y, none] = [some (.str (tx t)), some (.bl h), some (.str "abcdefghijklmnopqrstuvwxyz"), some (.box r), some (.box a), some (phD ph2), x', y', none] ∧ Jr m m2 r a bs2 row2 st2 ph2 (k + 1) ∧ rdm h (t.drop (k + 1)) ph2 row2 st2 (k + 1) = rdm h t 0 [] [] 0 ∧ k + 1 ≤ t.length := fun ph' row' st' bs' m2 x y e h1 h2 h3 h4 h5 => by
      obtain ⟨i1, i2, i3⟩ := nxt_iv J.iv e
      have := J.rl
      have := J.sl
      rw [rdm_some e] at hrd
      exact ⟨ph', row', st', bs', x, y, rfl, ⟨i1, h1, h2, h3, h4, by omega, by omega, h5⟩, hrd, hlt⟩
    -- the turn that ends it
    have off : nxt h c ph row st = none → fzE K Q (.tup [.str "raised", .bl true, .int 0, .int (0 + (k : Int))]) m' := fun e => by
      rw [rdm_none e] at hrd
      refine fzE.sub J.sub ?_
      rw [← hrd] at hq
      rw [int_eq (Int.zero_add (k : Int))]
      exact hq
    have hph := J.iv.ph
    match ph, hph with
    | 0, _ =>
      have leaf : ∀ (ph' : Nat) (d : D), nxt h c 0 row st = some (ph', row ++ [⟨[c], 0⟩], st) → phD ph' = d →
          isL m' (.box r) ∧ [D.str ⟨#[c]⟩, D.int 0].length ≤ 100000 ∧ ∀ p, m' p = none → fApp (.box r) [.box p] (mset m' p (.lst [.str ⟨#[c]⟩, .int 0])) fun _ m1 => ∃ (ph : Nat) (row : List Sy) (st : List Nat) (bs : List Addr) (x y : Option D),
            [some (.str (tx t)), some (.bl h), some (.str "abcdefghijklmnopqrstuvwxyz"), some (.box r), some (.box a), some d, some (.int (0 + (k : Int))), some (.str ⟨#[c]⟩), none] = [some (.str (tx t)), some (.bl h), some (.str "abcdefghijklmnopqrstuvwxyz"), some (.box r), some (.box a), some (phD ph), x, y, none] ∧ Jr m m1 r a bs row st ph (k + 1) ∧ rdm h (t.drop (k + 1)) ph row st (k + 1) = rdm h t 0 [] [] 0 ∧ k + 1 ≤ t.length := fun ph' d e hd => by
        refine ⟨by rw [isL_b J.en.lst]; trivial, by simp, fun p hp => ?_⟩
        rw [show (MO.lst [.str ⟨#[c]⟩, .int 0]) = entO ⟨[c], 0⟩ from rfl]
        obtain ⟨g1, g2, g3⟩ := J.en.add (s := ⟨[c], 0⟩) J.sub hp
        have pa : p ≠ a := fun z => by
          rw [z, J.ar] at hp
          cases hp
        rw [fApp_b (by rw [mset_ne g3.symm]; exact J.en.lst)]
        refine ⟨by rw [List.length_map, J.en.len]; have := J.rl; omega, ?_⟩
        rw [← hd]
        refine on ph' (row ++ [⟨[c], 0⟩]) st (bs ++ [p]) _ (some (.int (0 + (k : Int)))) (some (.str ⟨#[c]⟩)) e g1 ?_ ?_ ?_ ?_
        · rw [mset_ne nra.symm, mset_ne pa.symm]
          exact J.ar
        · intro z
          rcases List.mem_append.mp z with z | z
          · exact J.na z
          · exact pa (List.mem_singleton.mp z).symm
        · exact (J.sub.new (J.sub.non hp)).new hr
        · intro s hs
          rcases List.mem_append.mp hs with z | z
          · exact J.wd s z
          · rw [List.mem_singleton.mp z]
            simp
      simp only [aSeq, aSet, aC, aVar, aOp, aTest, aTru, aAnd, aOr, aNot, aAndV, aOrV, aNotV, aIfE, aNil, aCons, aTup, aLst, aLstB, aUn, aCa, aSl, aNo, aPart, aM, aML, aRet, aRetN, aIf, aDo, aNext, aCont, aBrk, aAsg, aCall, aCallX, aMeth, aFld, aSetFld, aFldAug, aAug, aRaise, aMake, aYes, kName, kCons, kNil, kSub, nth, put, wipeD, asT_b, fAdd_i, fAdd_s, fAdd_t, fAdd_l, fSub_i, fLt_i, fLe_i, fGt_i, fGe_i, fMul_i, fMod_i, fFdiv_i, fPow_i, fNeg_i, fEq_i, fEq_s, fEq_b, fNe_i, fNe_s, fNe_b, fIn_s, fNi_s, fIx_t0, fIx_t1, fIx_t2, fIx_l0, fIx_l1, fSl_s, fSl_t, fSl_l, fLen_t, fLen_l, fInt_i, fAbs_i, fMax_i, fMin_i, fTuple_t, fTuple_l, fList_t, fList_l, fRepS_s, seqOf_t, seqOf_l, truD_b, truD_t, truD_l, kTup_t, fIsN_n, fIsi_non_int, fIsi_non_bool, fIsi_non_str, fIsi_non_tuple, fIsi_non_list, fIsi_bl_int, fIsi_bl_bool, fIsi_bl_str, fIsi_bl_tuple, fIsi_bl_list, fIsi_int_int, fIsi_int_bool, fIsi_int_str, fIsi_int_tuple, fIsi_int_list, fIsi_str_int, fIsi_str_bool, fIsi_str_str, fIsi_str_tuple, fIsi_str_list, fIsi_tup_int, fIsi_tup_bool, fIsi_tup_str, fIsi_tup_tuple, fIsi_tup_list, fIsi_lst_int, fIsi_lst_bool, fIsi_lst_str, fIsi_lst_tuple, fIsi_lst_list, isN, fIx_sy0, fIx_sy1, ite_tt, ite_ff, fIx_s tl hat, fIn_s, mem_low, dq_dot, dq_que, dq_com, dq_opn, dq_cls, phD0, Int.reduceEq, Int.reduceLT, decide_true, decide_false, reduceIte, Bool.false_eq_true]
      by_cases h1 : low c
      · rw [if_pos (decide_eq_true h1)]
        exact leaf 1 _ (nxt0a h1) rfl
      · rw [if_neg (by simp [h1])]
        by_cases h2 : c = 46
        · rw [if_pos (decide_eq_true h2)]
          exact leaf 2 _ (nxt0b h1 (.inl h2)) rfl
        · rw [if_neg (by simp [h2])]
          cases h with
          | false =>
            rw [if_neg (by decide)]
            exact ⟨by simp, off (nxt0n h1 fun z => z.elim h2 fun y => by cases y.1)⟩
          | true =>
            rw [if_pos rfl]
            by_cases h3 : c = 63
            · rw [if_pos (decide_eq_true h3)]
              exact leaf 2 _ (nxt0b h1 (.inr ⟨rfl, h3⟩)) rfl
            · rw [if_neg (by simp [h3])]
              exact ⟨by simp, off (nxt0n h1 fun z => z.elim h2 fun y => h3 y.2)⟩
    | 1, _ =>
      obtain ⟨s0, hs0, hn0⟩ := J.iv.la rfl
      have hl0 := lt_of hs0
      obtain ⟨b0, hb0, hbm, hbr, hmb⟩ := J.en.at_ hs0
      rw [← J.en.len] at hb0
      have hrow := fIx_b (P := fun _ _ => True) J.en.lst (at_lastB hb0)
      have hba : b0 ≠ a := fun z => J.na (by rw [← z]; exact hbm)
      have hw0 : s0.w.length ≤ 16 := J.wd s0 (List.mem_of_getElem? hs0)
      have lw : (tx s0.w).length ≤ 1000000 := by
        rw [tx_len]
        omega
      simp only [aSeq, aSet, aC, aVar, aOp, aTest, aTru, aAnd, aOr, aNot, aAndV, aOrV, aNotV, aIfE, aNil, aCons, aTup, aLst, aLstB, aUn, aCa, aSl, aNo, aPart, aM, aML, aRet, aRetN, aIf, aDo, aNext, aCont, aBrk, aAsg, aCall, aCallX, aMeth, aFld, aSetFld, aFldAug, aAug, aRaise, aMake, aYes, kName, kCons, kNil, kSub, nth, put, wipeD, asT_b, fAdd_i, fAdd_s, fAdd_t, fAdd_l, fSub_i, fLt_i, fLe_i, fGt_i, fGe_i, fMul_i, fMod_i, fFdiv_i, fPow_i, fNeg_i, fEq_i, fEq_s, fEq_b, fNe_i, fNe_s, fNe_b, fIn_s, fNi_s, fIx_t0, fIx_t1, fIx_t2, fIx_l0, fIx_l1, fSl_s, fSl_t, fSl_l, fLen_t, fLen_l, fInt_i, fAbs_i, fMax_i, fMin_i, fTuple_t, fTuple_l, fList_t, fList_l, fRepS_s, seqOf_t, seqOf_l, truD_b, truD_t, truD_l, kTup_t, fIsN_n, fIsi_non_int, fIsi_non_bool, fIsi_non_str, fIsi_non_tuple, fIsi_non_list, fIsi_bl_int, fIsi_bl_bool, fIsi_bl_str, fIsi_bl_tuple, fIsi_bl_list, fIsi_int_int, fIsi_int_bool, fIsi_int_str, fIsi_int_tuple, fIsi_int_list, fIsi_str_int, fIsi_str_bool, fIsi_str_str, fIsi_str_tuple, fIsi_str_list, fIsi_tup_int, fIsi_tup_bool, fIsi_tup_str, fIsi_tup_tuple, fIsi_tup_list, fIsi_lst_int, fIsi_lst_bool, fIsi_lst_str, fIsi_lst_tuple, fIsi_lst_list, isN, fIx_sy0, fIx_sy1, ite_tt, ite_ff, fIx_s tl hat, fIn_s, mem_low, mem_wsg, dq_dot, dq_que, dq_com, dq_opn, dq_cls, phD1, Int.reduceEq, Int.reduceLT, decide_true, decide_false, reduceIte, Bool.false_eq_true, fIx_b J.en.lst (at_lastB hb0), fIx_ent0 hmb, fIx_ent1 hmb, fLen_s lw, tx_len]
      refine ⟨by decide, ?_⟩
      have hk0 : ixN [D.str (tx s0.w), D.int (s0.n : Int)].length 0 = some 0 := rfl
      have hk1 : ixN [D.str (tx s0.w), D.int (s0.n : Int)].length 1 = some 1 := rfl
      have other : ¬(wsg c ∧ s0.w.length < 16) → 1 = 1 → ¬(wsg c ∧ wl row (row.length - 1) < 16) := fun z _ => by
        rw [wl_of hs0]
        exact z
      have notw : ∀ (A B C : Prop), ¬(wsg c ∧ s0.w.length < 16) → C → (if decide (wsg c) = true then (if decide ((s0.w.length : Int) < 16) = true then A else C) else C) := fun A B C z hC => by
        by_cases h1 : wsg c
        · rw [if_pos (decide_eq_true h1), if_neg (by simp; have : ¬s0.w.length < 16 := fun y => z ⟨h1, y⟩; omega)]
          exact hC
        · rw [if_neg (by simp [h1])]
          exact hC
      by_cases hw : wsg c ∧ s0.w.length < 16
      · rw [if_pos (decide_eq_true hw.1), if_pos (decide_eq_true (by omega)), fSetIx_b hmb hk0]
        refine ⟨by show s0.w.length + 1 ≤ _; omega, on 1 (modS (addS c) row (row.length - 1)) st bs _ _ _ (nxt1w hw.1 (by rw [wl_of hs0]; exact hw.2)) ?_ ?_ J.na (J.sub.new (J.en.new b0 hbm)) (wd_mod J.wd fun q hq => ?_)⟩
        · rw [J.en.len] at hb0
          have := J.en.upd (f := addS c) hs0 hb0
          have e : (MO.lst ([D.str (tx s0.w), D.int (s0.n : Int)].set 0 (.str (tx s0.w ++ ⟨#[c]⟩)))) = entO (addS c s0) := by
            show MO.lst [.str (tx s0.w ++ tx [c]), .int (s0.n : Int)] = _
            rw [tx_app]
            rfl
          rw [e]
          exact this
        · rw [mset_ne hba.symm]
          exact J.ar
        · rw [hs0] at hq
          cases hq
          show (s0.w ++ [c]).length ≤ 16
          rw [List.length_append, List.length_singleton]
          omega
      refine notw _ True _ hw ?_
      by_cases ho : c = 40
      · rw [if_pos (decide_eq_true ho), isL_b J.ar, fLen_b J.en.lst, fSub_i, fApp_b J.ar]
        subst ho
        have hm2 : ∀ o, mset m' a o b0 = some (entO s0) := fun o => by rw [mset_ne hba]; exact hmb
        have hr2 : ∀ o, mset m' a o r = some (.lst (bs.map .box)) := fun o => by rw [mset_ne nra]; exact J.en.lst
        simp only [fIx_b (hr2 _) (at_lastB hb0), fSetIx_b (hm2 _) hk1]
        refine ⟨trivial, by rw [List.length_map, List.length_reverse]; have := J.sl; omega, on 0 (modS oneS row (row.length - 1)) ((row.length - 1) :: st) bs _ _ _ nxt1o ?_ ?_ J.na ?_ (wd_mod J.wd fun q hq => J.wd q (List.mem_of_getElem? hq))⟩
        · rw [J.en.len] at hb0
          exact (J.en.other nra.symm J.na).upd (f := oneS) hs0 hb0
        · rw [mset_ne hba.symm, mset_same, List.reverse_cons, List.map_append (f := numD), List.length_map, J.en.len, int_eq (show ((row.length : Nat) : Int) - 1 = ((row.length - 1 : Nat) : Int) by omega)]
          rfl
        · exact (J.sub.new ha0).new (J.en.new b0 hbm)
      rw [if_neg (by simp [ho])]
      -- a comma or a bracket
      have hst : (st.reverse.map numD).length = st.length := by rw [List.length_map, List.length_reverse]
      have comma : ∀ (i : Nat) (st' : List Nat) (b : Addr) (s : Sy), st = i :: st' → bs[i]? = some b → row[i]? = some s → m' b = some (entO s) → c = 44 → s.n < 4 → ∀ x y : Option D, ∃ (ph' : Nat) (row' : List Sy) (st' : List Nat) (bs' : List Addr) (x' y' : Option D), [some (.str (tx t)), some (.bl h), some (.str "abcdefghijklmnopqrstuvwxyz"), some (.box r), some (.box a), some (.int 0), x, y, none] = [some (.str (tx t)), some (.bl h), some (.str "abcdefghijklmnopqrstuvwxyz"), some (.box r), some (.box a), some (phD ph'), x', y', none] ∧ Jr m (mset m' b (.lst [.str (tx s.w), .int ((s.n : Int) + 1)])) r a bs' row' st' ph' (k + 1) ∧ rdm h (t.drop (k + 1)) ph' row' st' (k + 1) = rdm h t 0 [] [] 0 ∧ k + 1 ≤ t.length := fun i st' b s e1 hb hs hm e4 hn x y => by
        subst e1
        subst e4
        have hbm := List.mem_of_getElem? hb
        refine on 0 (modS incS row i) (i :: st') bs _ x y (nxt_com (by decide) (by rw [cnt_of hs]; exact hn)) (J.en.upd (f := incS) hs hb) ?_ J.na (J.sub.new (J.en.new b hbm)) (wd_mod J.wd fun q hq => ?_)
        · rw [mset_ne (fun z => J.na (by rw [z]; exact hbm))]
          exact J.ar
        · exact J.wd q (List.mem_of_getElem? hq)
      have close : ∀ (i : Nat) (st0 : List Nat), st = i :: st0 → c = 41 → ∀ x y : Option D, ∃ (ph' : Nat) (row' : List Sy) (st' : List Nat) (bs' : List Addr) (x' y' : Option D), [some (.str (tx t)), some (.bl h), some (.str "abcdefghijklmnopqrstuvwxyz"), some (.box r), some (.box a), some (.int 2), x, y, none] = [some (.str (tx t)), some (.bl h), some (.str "abcdefghijklmnopqrstuvwxyz"), some (.box r), some (.box a), some (phD ph'), x', y', none] ∧ Jr m (mset m' a (.lst (st0.reverse.map numD))) r a bs' row' st' ph' (k + 1) ∧ rdm h (t.drop (k + 1)) ph' row' st' (k + 1) = rdm h t 0 [] [] 0 ∧ k + 1 ≤ t.length := fun i st0 e1 e4 x y => by
        subst e1
        subst e4
        exact on 2 row st0 bs _ x y (nxt_cls (by decide)) (J.en.other nra.symm J.na) mset_same J.na (J.sub.new ha0) J.wd
      cases st with
      | nil =>
        have hno := nxt_nil (h := h) (c := c) (row := row) (ph := 1) (by decide) (fun z => ⟨other hw z, ho⟩)
        have har : m' a = some (.lst []) := J.ar
        simp only [aSeq, aSet, aC, aVar, aOp, aTest, aTru, aAnd, aOr, aNot, aAndV, aOrV, aNotV, aIfE, aNil, aCons, aTup, aLst, aLstB, aUn, aCa, aSl, aNo, aPart, aM, aML, aRet, aRetN, aIf, aDo, aNext, aCont, aBrk, aAsg, aCall, aCallX, aMeth, aFld, aSetFld, aFldAug, aAug, aRaise, aMake, aYes, kName, kCons, kNil, kSub, nth, put, wipeD, asT_b, fAdd_i, fAdd_s, fAdd_t, fAdd_l, fSub_i, fLt_i, fLe_i, fGt_i, fGe_i, fMul_i, fMod_i, fFdiv_i, fPow_i, fNeg_i, fEq_i, fEq_s, fEq_b, fNe_i, fNe_s, fNe_b, fIn_s, fNi_s, fIx_t0, fIx_t1, fIx_t2, fIx_l0, fIx_l1, fSl_s, fSl_t, fSl_l, fLen_t, fLen_l, fInt_i, fAbs_i, fMax_i, fMin_i, fTuple_t, fTuple_l, fList_t, fList_l, fRepS_s, seqOf_t, seqOf_l, truD_b, truD_t, truD_l, kTup_t, fIsN_n, fIsi_non_int, fIsi_non_bool, fIsi_non_str, fIsi_non_tuple, fIsi_non_list, fIsi_bl_int, fIsi_bl_bool, fIsi_bl_str, fIsi_bl_tuple, fIsi_bl_list, fIsi_int_int, fIsi_int_bool, fIsi_int_str, fIsi_int_tuple, fIsi_int_list, fIsi_str_int, fIsi_str_bool, fIsi_str_str, fIsi_str_tuple, fIsi_str_list, fIsi_tup_int, fIsi_tup_bool, fIsi_tup_str, fIsi_tup_tuple, fIsi_tup_list, fIsi_lst_int, fIsi_lst_bool, fIsi_lst_str, fIsi_lst_tuple, fIsi_lst_list, isN, fIx_sy0, fIx_sy1, ite_tt, ite_ff, fLen_b har, Int.reduceLT, List.length_nil, Int.natCast_zero, decide_false, Bool.false_eq_true, reduceIte]
        simp only [Int.natCast_zero, Int.reduceLT, decide_false, Bool.false_eq_true, reduceIte, ite_self]
        exact ⟨by simp, off hno⟩
      | cons i st' =>
        obtain ⟨hi, _⟩ := J.iv.lt i List.mem_cons_self
        obtain ⟨s, hs⟩ : ∃ s, row[i]? = some s := ⟨_, List.getElem?_eq_getElem hi⟩
        obtain ⟨b, hb, hbm', hbr', hmb'⟩ := J.en.at_ hs
        have hrow : atI (bs.map D.box) (i : Int) = some (.box b) := by
          apply atI_nn
          rw [List.getElem?_map, hb]
          rfl
        have hpos : (0 : Int) < ((i :: st').reverse.map numD).length := by simp
        have hrev : (i :: st').reverse.map numD = st'.reverse.map numD ++ [.int (i : Int)] := by
          rw [List.reverse_cons, List.map_append]
          rfl
        have isA : isL m' (.box a) = True := isL_b J.ar
        have hk1 : ixN [D.str (tx s.w), D.int (s.n : Int)].length 1 = some 1 := rfl
        have off2 : (c = 44 → ¬s.n < 4) → c ≠ 41 → [D.str "raised", D.bl true, D.int 0, D.int (0 + (k : Int))].length ≤ 100000 ∧ fzE K Q (.tup [.str "raised", .bl true, .int 0, .int (0 + (k : Int))]) m' := fun h1 h2 => ⟨by simp, off (nxt_no (by decide) (fun z => ⟨other hw z, ho⟩) (fun z => h1 z.1 (by rw [← cnt_of hs]; exact z.2)) h2)⟩
        simp only [aSeq, aSet, aC, aVar, aOp, aTest, aTru, aAnd, aOr, aNot, aAndV, aOrV, aNotV, aIfE, aNil, aCons, aTup, aLst, aLstB, aUn, aCa, aSl, aNo, aPart, aM, aML, aRet, aRetN, aIf, aDo, aNext, aCont, aBrk, aAsg, aCall, aCallX, aMeth, aFld, aSetFld, aFldAug, aAug, aRaise, aMake, aYes, kName, kCons, kNil, kSub, nth, put, wipeD, asT_b, fAdd_i, fAdd_s, fAdd_t, fAdd_l, fSub_i, fLt_i, fLe_i, fGt_i, fGe_i, fMul_i, fMod_i, fFdiv_i, fPow_i, fNeg_i, fEq_i, fEq_s, fEq_b, fNe_i, fNe_s, fNe_b, fIn_s, fNi_s, fIx_t0, fIx_t1, fIx_t2, fIx_l0, fIx_l1, fSl_s, fSl_t, fSl_l, fLen_t, fLen_l, fInt_i, fAbs_i, fMax_i, fMin_i, fTuple_t, fTuple_l, fList_t, fList_l, fRepS_s, seqOf_t, seqOf_l, truD_b, truD_t, truD_l, kTup_t, fIsN_n, fIsi_non_int, fIsi_non_bool, fIsi_non_str, fIsi_non_tuple, fIsi_non_list, fIsi_bl_int, fIsi_bl_bool, fIsi_bl_str, fIsi_bl_tuple, fIsi_bl_list, fIsi_int_int, fIsi_int_bool, fIsi_int_str, fIsi_int_tuple, fIsi_int_list, fIsi_str_int, fIsi_str_bool, fIsi_str_str, fIsi_str_tuple, fIsi_str_list, fIsi_tup_int, fIsi_tup_bool, fIsi_tup_str, fIsi_tup_tuple, fIsi_tup_list, fIsi_lst_int, fIsi_lst_bool, fIsi_lst_str, fIsi_lst_tuple, fIsi_lst_list, isN, fIx_sy0, fIx_sy1, ite_tt, ite_ff, fLen_b J.ar, decide_eq_true hpos, fIx_b J.ar at_num, fIx_b J.en.lst hrow, fIx_ent1 hmb', isA, fPop_b J.ar hrev, true_and, fSetIx_b hmb' hk1, reduceIte]
        by_cases h4 : c = 44
        · rw [if_pos (decide_eq_true h4)]
          by_cases hn : s.n < 4
          · rw [if_pos (decide_eq_true (by omega))]
            exact comma i st' b s rfl hb hs hmb' h4 hn _ _
          · rw [if_neg (by simp; omega), if_neg (by simp; omega)]
            exact off2 (fun _ => hn) (fun z => by rw [h4] at z; cases z)
        · rw [if_neg (by simp [h4])]
          by_cases h41 : c = 41
          · rw [if_pos (decide_eq_true h41)]
            exact close i st' rfl h41 _ _
          · rw [if_neg (by simp [h41])]
            exact off2 (fun z => absurd z h4) h41
    | 2, _ =>
      simp only [aSeq, aSet, aC, aVar, aOp, aTest, aTru, aAnd, aOr, aNot, aAndV, aOrV, aNotV, aIfE, aNil, aCons, aTup, aLst, aLstB, aUn, aCa, aSl, aNo, aPart, aM, aML, aRet, aRetN, aIf, aDo, aNext, aCont, aBrk, aAsg, aCall, aCallX, aMeth, aFld, aSetFld, aFldAug, aAug, aRaise, aMake, aYes, kName, kCons, kNil, kSub, nth, put, wipeD, asT_b, fAdd_i, fAdd_s, fAdd_t, fAdd_l, fSub_i, fLt_i, fLe_i, fGt_i, fGe_i, fMul_i, fMod_i, fFdiv_i, fPow_i, fNeg_i, fEq_i, fEq_s, fEq_b, fNe_i, fNe_s, fNe_b, fIn_s, fNi_s, fIx_t0, fIx_t1, fIx_t2, fIx_l0, fIx_l1, fSl_s, fSl_t, fSl_l, fLen_t, fLen_l, fInt_i, fAbs_i, fMax_i, fMin_i, fTuple_t, fTuple_l, fList_t, fList_l, fRepS_s, seqOf_t, seqOf_l, truD_b, truD_t, truD_l, kTup_t, fIsN_n, fIsi_non_int, fIsi_non_bool, fIsi_non_str, fIsi_non_tuple, fIsi_non_list, fIsi_bl_int, fIsi_bl_bool, fIsi_bl_str, fIsi_bl_tuple, fIsi_bl_list, fIsi_int_int, fIsi_int_bool, fIsi_int_str, fIsi_int_tuple, fIsi_int_list, fIsi_str_int, fIsi_str_bool, fIsi_str_str, fIsi_str_tuple, fIsi_str_list, fIsi_tup_int, fIsi_tup_bool, fIsi_tup_str, fIsi_tup_tuple, fIsi_tup_list, fIsi_lst_int, fIsi_lst_bool, fIsi_lst_str, fIsi_lst_tuple, fIsi_lst_list, isN, fIx_sy0, fIx_sy1, ite_tt, ite_ff, fIx_s tl hat, fIn_s, mem_low, mem_wsg, dq_dot, dq_que, dq_com, dq_opn, dq_cls, phD2, Int.reduceEq, Int.reduceLT, decide_true, decide_false, reduceIte, Bool.false_eq_true]
      -- a comma or a bracket
      have hst : (st.reverse.map numD).length = st.length := by rw [List.length_map, List.length_reverse]
      have comma : ∀ (i : Nat) (st' : List Nat) (b : Addr) (s : Sy), st = i :: st' → bs[i]? = some b → row[i]? = some s → m' b = some (entO s) → c = 44 → s.n < 4 → ∀ x y : Option D, ∃ (ph' : Nat) (row' : List Sy) (st' : List Nat) (bs' : List Addr) (x' y' : Option D), [some (.str (tx t)), some (.bl h), some (.str "abcdefghijklmnopqrstuvwxyz"), some (.box r), some (.box a), some (.int 0), x, y, none] = [some (.str (tx t)), some (.bl h), some (.str "abcdefghijklmnopqrstuvwxyz"), some (.box r), some (.box a), some (phD ph'), x', y', none] ∧ Jr m (mset m' b (.lst [.str (tx s.w), .int ((s.n : Int) + 1)])) r a bs' row' st' ph' (k + 1) ∧ rdm h (t.drop (k + 1)) ph' row' st' (k + 1) = rdm h t 0 [] [] 0 ∧ k + 1 ≤ t.length := fun i st' b s e1 hb hs hm e4 hn x y => by
        subst e1
        subst e4
        have hbm := List.mem_of_getElem? hb
        refine on 0 (modS incS row i) (i :: st') bs _ x y (nxt_com (by decide) (by rw [cnt_of hs]; exact hn)) (J.en.upd (f := incS) hs hb) ?_ J.na (J.sub.new (J.en.new b hbm)) (wd_mod J.wd fun q hq => ?_)
        · rw [mset_ne (fun z => J.na (by rw [z]; exact hbm))]
          exact J.ar
        · exact J.wd q (List.mem_of_getElem? hq)
      have close : ∀ (i : Nat) (st0 : List Nat), st = i :: st0 → c = 41 → ∀ x y : Option D, ∃ (ph' : Nat) (row' : List Sy) (st' : List Nat) (bs' : List Addr) (x' y' : Option D), [some (.str (tx t)), some (.bl h), some (.str "abcdefghijklmnopqrstuvwxyz"), some (.box r), some (.box a), some (.int 2), x, y, none] = [some (.str (tx t)), some (.bl h), some (.str "abcdefghijklmnopqrstuvwxyz"), some (.box r), some (.box a), some (phD ph'), x', y', none] ∧ Jr m (mset m' a (.lst (st0.reverse.map numD))) r a bs' row' st' ph' (k + 1) ∧ rdm h (t.drop (k + 1)) ph' row' st' (k + 1) = rdm h t 0 [] [] 0 ∧ k + 1 ≤ t.length := fun i st0 e1 e4 x y => by
        subst e1
        subst e4
        exact on 2 row st0 bs _ x y (nxt_cls (by decide)) (J.en.other nra.symm J.na) mset_same J.na (J.sub.new ha0) J.wd
      cases st with
      | nil =>
        have hno := nxt_nil (h := h) (c := c) (row := row) (ph := 2) (by decide) (fun z => by cases z)
        have har : m' a = some (.lst []) := J.ar
        simp only [aSeq, aSet, aC, aVar, aOp, aTest, aTru, aAnd, aOr, aNot, aAndV, aOrV, aNotV, aIfE, aNil, aCons, aTup, aLst, aLstB, aUn, aCa, aSl, aNo, aPart, aM, aML, aRet, aRetN, aIf, aDo, aNext, aCont, aBrk, aAsg, aCall, aCallX, aMeth, aFld, aSetFld, aFldAug, aAug, aRaise, aMake, aYes, kName, kCons, kNil, kSub, nth, put, wipeD, asT_b, fAdd_i, fAdd_s, fAdd_t, fAdd_l, fSub_i, fLt_i, fLe_i, fGt_i, fGe_i, fMul_i, fMod_i, fFdiv_i, fPow_i, fNeg_i, fEq_i, fEq_s, fEq_b, fNe_i, fNe_s, fNe_b, fIn_s, fNi_s, fIx_t0, fIx_t1, fIx_t2, fIx_l0, fIx_l1, fSl_s, fSl_t, fSl_l, fLen_t, fLen_l, fInt_i, fAbs_i, fMax_i, fMin_i, fTuple_t, fTuple_l, fList_t, fList_l, fRepS_s, seqOf_t, seqOf_l, truD_b, truD_t, truD_l, kTup_t, fIsN_n, fIsi_non_int, fIsi_non_bool, fIsi_non_str, fIsi_non_tuple, fIsi_non_list, fIsi_bl_int, fIsi_bl_bool, fIsi_bl_str, fIsi_bl_tuple, fIsi_bl_list, fIsi_int_int, fIsi_int_bool, fIsi_int_str, fIsi_int_tuple, fIsi_int_list, fIsi_str_int, fIsi_str_bool, fIsi_str_str, fIsi_str_tuple, fIsi_str_list, fIsi_tup_int, fIsi_tup_bool, fIsi_tup_str, fIsi_tup_tuple, fIsi_tup_list, fIsi_lst_int, fIsi_lst_bool, fIsi_lst_str, fIsi_lst_tuple, fIsi_lst_list, isN, fIx_sy0, fIx_sy1, ite_tt, ite_ff, fLen_b har, Int.reduceLT, List.length_nil, Int.natCast_zero, decide_false, Bool.false_eq_true, reduceIte]
        simp only [Int.natCast_zero, Int.reduceLT, decide_false, Bool.false_eq_true, reduceIte, ite_self]
        exact ⟨by simp, off hno⟩
      | cons i st' =>
        obtain ⟨hi, _⟩ := J.iv.lt i List.mem_cons_self
        obtain ⟨s, hs⟩ : ∃ s, row[i]? = some s := ⟨_, List.getElem?_eq_getElem hi⟩
        obtain ⟨b, hb, hbm', hbr', hmb'⟩ := J.en.at_ hs
        have hrow : atI (bs.map D.box) (i : Int) = some (.box b) := by
          apply atI_nn
          rw [List.getElem?_map, hb]
          rfl
        have hpos : (0 : Int) < ((i :: st').reverse.map numD).length := by simp
        have hrev : (i :: st').reverse.map numD = st'.reverse.map numD ++ [.int (i : Int)] := by
          rw [List.reverse_cons, List.map_append]
          rfl
        have isA : isL m' (.box a) = True := isL_b J.ar
        have hk1 : ixN [D.str (tx s.w), D.int (s.n : Int)].length 1 = some 1 := rfl
        have off2 : (c = 44 → ¬s.n < 4) → c ≠ 41 → [D.str "raised", D.bl true, D.int 0, D.int (0 + (k : Int))].length ≤ 100000 ∧ fzE K Q (.tup [.str "raised", .bl true, .int 0, .int (0 + (k : Int))]) m' := fun h1 h2 => ⟨by simp, off (nxt_no (by decide) (fun z => by cases z) (fun z => h1 z.1 (by rw [← cnt_of hs]; exact z.2)) h2)⟩
        simp only [aSeq, aSet, aC, aVar, aOp, aTest, aTru, aAnd, aOr, aNot, aAndV, aOrV, aNotV, aIfE, aNil, aCons, aTup, aLst, aLstB, aUn, aCa, aSl, aNo, aPart, aM, aML, aRet, aRetN, aIf, aDo, aNext, aCont, aBrk, aAsg, aCall, aCallX, aMeth, aFld, aSetFld, aFldAug, aAug, aRaise, aMake, aYes, kName, kCons, kNil, kSub, nth, put, wipeD, asT_b, fAdd_i, fAdd_s, fAdd_t, fAdd_l, fSub_i, fLt_i, fLe_i, fGt_i, fGe_i, fMul_i, fMod_i, fFdiv_i, fPow_i, fNeg_i, fEq_i, fEq_s, fEq_b, fNe_i, fNe_s, fNe_b, fIn_s, fNi_s, fIx_t0, fIx_t1, fIx_t2, fIx_l0, fIx_l1, fSl_s, fSl_t, fSl_l, fLen_t, fLen_l, fInt_i, fAbs_i, fMax_i, fMin_i, fTuple_t, fTuple_l, fList_t, fList_l, fRepS_s, seqOf_t, seqOf_l, truD_b, truD_t, truD_l, kTup_t, fIsN_n, fIsi_non_int, fIsi_non_bool, fIsi_non_str, fIsi_non_tuple, fIsi_non_list, fIsi_bl_int, fIsi_bl_bool, fIsi_bl_str, fIsi_bl_tuple, fIsi_bl_list, fIsi_int_int, fIsi_int_bool, fIsi_int_str, fIsi_int_tuple, fIsi_int_list, fIsi_str_int, fIsi_str_bool, fIsi_str_str, fIsi_str_tuple, fIsi_str_list, fIsi_tup_int, fIsi_tup_bool, fIsi_tup_str, fIsi_tup_tuple, fIsi_tup_list, fIsi_lst_int, fIsi_lst_bool, fIsi_lst_str, fIsi_lst_tuple, fIsi_lst_list, isN, fIx_sy0, fIx_sy1, ite_tt, ite_ff, fLen_b J.ar, decide_eq_true hpos, fIx_b J.ar at_num, fIx_b J.en.lst hrow, fIx_ent1 hmb', isA, fPop_b J.ar hrev, true_and, fSetIx_b hmb' hk1, reduceIte]
        by_cases h4 : c = 44
        · rw [if_pos (decide_eq_true h4)]
          by_cases hn : s.n < 4
          · rw [if_pos (decide_eq_true (by omega))]
            exact comma i st' b s rfl hb hs hmb' h4 hn _ _
          · rw [if_neg (by simp; omega), if_neg (by simp; omega)]
            exact off2 (fun _ => hn) (fun z => by rw [h4] at z; cases z)
        · rw [if_neg (by simp [h4])]
          by_cases h41 : c = 41
          · rw [if_pos (decide_eq_true h41)]
            exact close i st' rfl h41 _ _
          · rw [if_neg (by simp [h41])]
            exact off2 (fun z => absurd z h4) h41
  · rintro g m' ⟨ph, row, st, bs, x, y, rfl, J, hrd, hkl⟩
    have e : ((t.length : Int) - 0).toNat = t.length := by omega
    rw [e] at J hrd
    rw [List.drop_length] at hrd
    refine cut_plain ?_
    have hfin : rdm h [] ph row st t.length = if ph = 0 ∨ st ≠ [] then .err t.length else .ok row := rfl
    have hlen : (st.reverse.map numD).length = st.length := by rw [List.length_map, List.length_reverse]
    have bad : (ph = 0 ∨ st ≠ []) → [D.str "raised", D.bl true, D.int 0, D.int (t.length : Int)].length ≤ 100000 ∧ fzE K Q (.tup [.str "raised", .bl true, .int 0, .int (t.length : Int)]) m' := fun hb => by
      rw [hfin, if_pos hb] at hrd
      rw [← hrd] at hq
      exact ⟨by simp, fzE.sub J.sub hq⟩
    have good : ph ≠ 0 → st = [] → aRet (aTup (aCons (aC (.str "told")) (aCons (aCa fTuple (aCons (aLc true (aVar 3) [8] (kName 8) aYes (aTup (aCons (aOp fIx (aVar 8) (aC (.int 0))) (aCons (aOp fIx (aVar 8) (aC (.int 1))) aNil)))) aNil)) aNil))) { nx := fun _ m' => fzE K Q .non m', rt := fzE K Q } [some (.str (tx t)), some (.bl h), some (.str "abcdefghijklmnopqrstuvwxyz"), some (.box r), some (.box a), some (phD ph), x, y, none] m' := fun h1 h2 => by
      rw [hfin, if_neg (fun z => z.elim h1 fun y => y h2)] at hrd
      rw [← hrd] at hq
      simp only [aSeq, aSet, aC, aVar, aOp, aTest, aTru, aAnd, aOr, aNot, aAndV, aOrV, aNotV, aIfE, aNil, aCons, aTup, aLst, aLstB, aUn, aCa, aSl, aNo, aPart, aM, aML, aRet, aRetN, aIf, aDo, aNext, aCont, aBrk, aAsg, aCall, aCallX, aMeth, aFld, aSetFld, aFldAug, aAug, aRaise, aMake, aYes, kName, kCons, kNil, kSub, nth, put, wipeD, asT_b, fAdd_i, fAdd_s, fAdd_t, fAdd_l, fSub_i, fLt_i, fLe_i, fGt_i, fGe_i, fMul_i, fMod_i, fFdiv_i, fPow_i, fNeg_i, fEq_i, fEq_s, fEq_b, fNe_i, fNe_s, fNe_b, fIn_s, fNi_s, fIx_t0, fIx_t1, fIx_t2, fIx_l0, fIx_l1, fSl_s, fSl_t, fSl_l, fLen_t, fLen_l, fInt_i, fAbs_i, fMax_i, fMin_i, fTuple_t, fTuple_l, fList_t, fList_l, fRepS_s, seqOf_t, seqOf_l, truD_b, truD_t, truD_l, kTup_t, fIsN_n, fIsi_non_int, fIsi_non_bool, fIsi_non_str, fIsi_non_tuple, fIsi_non_list, fIsi_bl_int, fIsi_bl_bool, fIsi_bl_str, fIsi_bl_tuple, fIsi_bl_list, fIsi_int_int, fIsi_int_bool, fIsi_int_str, fIsi_int_tuple, fIsi_int_list, fIsi_str_int, fIsi_str_bool, fIsi_str_str, fIsi_str_tuple, fIsi_str_list, fIsi_tup_int, fIsi_tup_bool, fIsi_tup_str, fIsi_tup_tuple, fIsi_tup_list, fIsi_lst_int, fIsi_lst_bool, fIsi_lst_str, fIsi_lst_tuple, fIsi_lst_list, isN, fIx_sy0, fIx_sy1, ite_tt, ite_ff, aLc, seqOf_b J.en.lst]
      refine ⟨bs.map .box, rfl, fun p hp => lc_pure (fun i => (row[i]?).map syD) (by rw [List.length_map, J.en.len]; have := J.rl; omega) (fun acc => ?_) (fun i acc hi hacc => ?_) ?_⟩
      · have : r ≠ p := fun z => by
          rw [← z, J.en.lst] at hp
          cases hp
        rw [seqOf_b (show mset m' p (.lst acc) r = some (.lst (bs.map .box)) by rw [mset_ne this]; exact J.en.lst)]
      · have hi : i < row.length := by
          rw [List.length_map, J.en.len] at hi
          exact hi
        have hs := List.getElem?_eq_getElem hi
        obtain ⟨b, hb, hbm, hbr, hmb⟩ := J.en.at_ hs
        have hbp : b ≠ p := fun z => by
          rw [← z, hmb] at hp
          cases hp
        have hmb2 : mset m' p (.lst acc) b = some (entO row[i]) := by
          rw [mset_ne hbp]
          exact hmb
        have hg : (bs.map D.box).getD i .non = .box b := by
          rw [List.getD_eq_getElem?_getD, List.getElem?_map, hb]
          rfl
        simp only [hg]
        simp only [aSeq, aSet, aC, aVar, aOp, aTest, aTru, aAnd, aOr, aNot, aAndV, aOrV, aNotV, aIfE, aNil, aCons, aTup, aLst, aLstB, aUn, aCa, aSl, aNo, aPart, aM, aML, aRet, aRetN, aIf, aDo, aNext, aCont, aBrk, aAsg, aCall, aCallX, aMeth, aFld, aSetFld, aFldAug, aAug, aRaise, aMake, aYes, kName, kCons, kNil, kSub, nth, put, wipeD, asT_b, fAdd_i, fAdd_s, fAdd_t, fAdd_l, fSub_i, fLt_i, fLe_i, fGt_i, fGe_i, fMul_i, fMod_i, fFdiv_i, fPow_i, fNeg_i, fEq_i, fEq_s, fEq_b, fNe_i, fNe_s, fNe_b, fIn_s, fNi_s, fIx_t0, fIx_t1, fIx_t2, fIx_l0, fIx_l1, fSl_s, fSl_t, fSl_l, fLen_t, fLen_l, fInt_i, fAbs_i, fMax_i, fMin_i, fTuple_t, fTuple_l, fList_t, fList_l, fRepS_s, seqOf_t, seqOf_l, truD_b, truD_t, truD_l, kTup_t, fIsN_n, fIsi_non_int, fIsi_non_bool, fIsi_non_str, fIsi_non_tuple, fIsi_non_list, fIsi_bl_int, fIsi_bl_bool, fIsi_bl_str, fIsi_bl_tuple, fIsi_bl_list, fIsi_int_int, fIsi_int_bool, fIsi_int_str, fIsi_int_tuple, fIsi_int_list, fIsi_str_int, fIsi_str_bool, fIsi_str_str, fIsi_str_tuple, fIsi_str_list, fIsi_tup_int, fIsi_tup_bool, fIsi_tup_str, fIsi_tup_tuple, fIsi_tup_list, fIsi_lst_int, fIsi_lst_bool, fIsi_lst_str, fIsi_lst_tuple, fIsi_lst_list, isN, fIx_sy0, fIx_sy1, ite_tt, ite_ff, fIx_ent0 hmb2, fIx_ent1 hmb2]
        exact ⟨by simp, pvF_yes hacc (by rw [hs]; rfl)⟩
      · rw [if_pos (by trivial), mdel_mset hp]
        have e2 : (List.range (bs.map D.box).length).filterMap (fun i => (row[i]?).map syD) = row.map syD := by
          rw [List.length_map, J.en.len]
          exact fm_map fun i a ha => by rw [ha] <;> rfl
        rw [e2]
        exact ⟨by simp, fzE.sub J.sub hq⟩
    have hph := J.iv.ph
    match ph, hph with
    | 0, _ =>
      simp only [aSeq, aSet, aC, aVar, aOp, aTest, aTru, aAnd, aOr, aNot, aAndV, aOrV, aNotV, aIfE, aNil, aCons, aTup, aLst, aLstB, aUn, aCa, aSl, aNo, aPart, aM, aML, aRet, aRetN, aIf, aDo, aNext, aCont, aBrk, aAsg, aCall, aCallX, aMeth, aFld, aSetFld, aFldAug, aAug, aRaise, aMake, aYes, kName, kCons, kNil, kSub, nth, put, wipeD, asT_b, fAdd_i, fAdd_s, fAdd_t, fAdd_l, fSub_i, fLt_i, fLe_i, fGt_i, fGe_i, fMul_i, fMod_i, fFdiv_i, fPow_i, fNeg_i, fEq_i, fEq_s, fEq_b, fNe_i, fNe_s, fNe_b, fIn_s, fNi_s, fIx_t0, fIx_t1, fIx_t2, fIx_l0, fIx_l1, fSl_s, fSl_t, fSl_l, fLen_t, fLen_l, fInt_i, fAbs_i, fMax_i, fMin_i, fTuple_t, fTuple_l, fList_t, fList_l, fRepS_s, seqOf_t, seqOf_l, truD_b, truD_t, truD_l, kTup_t, fIsN_n, fIsi_non_int, fIsi_non_bool, fIsi_non_str, fIsi_non_tuple, fIsi_non_list, fIsi_bl_int, fIsi_bl_bool, fIsi_bl_str, fIsi_bl_tuple, fIsi_bl_list, fIsi_int_int, fIsi_int_bool, fIsi_int_str, fIsi_int_tuple, fIsi_int_list, fIsi_str_int, fIsi_str_bool, fIsi_str_str, fIsi_str_tuple, fIsi_str_list, fIsi_tup_int, fIsi_tup_bool, fIsi_tup_str, fIsi_tup_tuple, fIsi_tup_list, fIsi_lst_int, fIsi_lst_bool, fIsi_lst_str, fIsi_lst_tuple, fIsi_lst_list, isN, fIx_sy0, fIx_sy1, ite_tt, ite_ff, phD0, decide_true, fLen_s tl, tx_len]
      exact bad (.inl rfl)
    | 1, _ =>
      simp only [aSeq, aSet, aC, aVar, aOp, aTest, aTru, aAnd, aOr, aNot, aAndV, aOrV, aNotV, aIfE, aNil, aCons, aTup, aLst, aLstB, aUn, aCa, aSl, aNo, aPart, aM, aML, aRet, aRetN, aIf, aDo, aNext, aCont, aBrk, aAsg, aCall, aCallX, aMeth, aFld, aSetFld, aFldAug, aAug, aRaise, aMake, aYes, kName, kCons, kNil, kSub, nth, put, wipeD, asT_b, fAdd_i, fAdd_s, fAdd_t, fAdd_l, fSub_i, fLt_i, fLe_i, fGt_i, fGe_i, fMul_i, fMod_i, fFdiv_i, fPow_i, fNeg_i, fEq_i, fEq_s, fEq_b, fNe_i, fNe_s, fNe_b, fIn_s, fNi_s, fIx_t0, fIx_t1, fIx_t2, fIx_l0, fIx_l1, fSl_s, fSl_t, fSl_l, fLen_t, fLen_l, fInt_i, fAbs_i, fMax_i, fMin_i, fTuple_t, fTuple_l, fList_t, fList_l, fRepS_s, seqOf_t, seqOf_l, truD_b, truD_t, truD_l, kTup_t, fIsN_n, fIsi_non_int, fIsi_non_bool, fIsi_non_str, fIsi_non_tuple, fIsi_non_list, fIsi_bl_int, fIsi_bl_bool, fIsi_bl_str, fIsi_bl_tuple, fIsi_bl_list, fIsi_int_int, fIsi_int_bool, fIsi_int_str, fIsi_int_tuple, fIsi_int_list, fIsi_str_int, fIsi_str_bool, fIsi_str_str, fIsi_str_tuple, fIsi_str_list, fIsi_tup_int, fIsi_tup_bool, fIsi_tup_str, fIsi_tup_tuple, fIsi_tup_list, fIsi_lst_int, fIsi_lst_bool, fIsi_lst_str, fIsi_lst_tuple, fIsi_lst_list, isN, fIx_sy0, fIx_sy1, ite_tt, ite_ff, phD1, Int.reduceEq, decide_false, Bool.false_eq_true, reduceIte, fLen_b J.ar, hlen, fLen_s tl, tx_len]
      by_cases hz : st = []
      · rw [if_neg (by rw [hz]; simp)]
        exact good (by decide) hz
      · rw [if_pos (decide_eq_true (by have := List.length_pos_iff.mpr hz; omega))]
        exact bad (.inr hz)
    | 2, _ =>
      simp only [aSeq, aSet, aC, aVar, aOp, aTest, aTru, aAnd, aOr, aNot, aAndV, aOrV, aNotV, aIfE, aNil, aCons, aTup, aLst, aLstB, aUn, aCa, aSl, aNo, aPart, aM, aML, aRet, aRetN, aIf, aDo, aNext, aCont, aBrk, aAsg, aCall, aCallX, aMeth, aFld, aSetFld, aFldAug, aAug, aRaise, aMake, aYes, kName, kCons, kNil, kSub, nth, put, wipeD, asT_b, fAdd_i, fAdd_s, fAdd_t, fAdd_l, fSub_i, fLt_i, fLe_i, fGt_i, fGe_i, fMul_i, fMod_i, fFdiv_i, fPow_i, fNeg_i, fEq_i, fEq_s, fEq_b, fNe_i, fNe_s, fNe_b, fIn_s, fNi_s, fIx_t0, fIx_t1, fIx_t2, fIx_l0, fIx_l1, fSl_s, fSl_t, fSl_l, fLen_t, fLen_l, fInt_i, fAbs_i, fMax_i, fMin_i, fTuple_t, fTuple_l, fList_t, fList_l, fRepS_s, seqOf_t, seqOf_l, truD_b, truD_t, truD_l, kTup_t, fIsN_n, fIsi_non_int, fIsi_non_bool, fIsi_non_str, fIsi_non_tuple, fIsi_non_list, fIsi_bl_int, fIsi_bl_bool, fIsi_bl_str, fIsi_bl_tuple, fIsi_bl_list, fIsi_int_int, fIsi_int_bool, fIsi_int_str, fIsi_int_tuple, fIsi_int_list, fIsi_str_int, fIsi_str_bool, fIsi_str_str, fIsi_str_tuple, fIsi_str_list, fIsi_tup_int, fIsi_tup_bool, fIsi_tup_str, fIsi_tup_tuple, fIsi_tup_list, fIsi_lst_int, fIsi_lst_bool, fIsi_lst_str, fIsi_lst_tuple, fIsi_lst_list, isN, fIx_sy0, fIx_sy1, ite_tt, ite_ff, phD2, Int.reduceEq, decide_false, Bool.false_eq_true, reduceIte, fLen_b J.ar, hlen, fLen_s tl, tx_len]
      by_cases hz : st = []
      · rw [if_neg (by rw [hz]; simp)]
        exact good (by decide) hz
      · rw [if_pos (decide_eq_true (by have := List.length_pos_iff.mpr hz; omega))]
        exact bad (.inr hz)
end AL
set_option maxHeartbeats 4000000
namespace AL
open PySem L2 Evl
variable {K : PySem.W.Frag}
/-! ### parts of texts -/
theorem cut_tx {t : List Nat} {lo hi : Option Int} : cutS (tx t) lo hi = tx ((t.drop (HT.sIx t.length 0 lo)).take (HT.sIx t.length t.length hi - HT.sIx t.length 0 lo)) := by
  unfold cutS
  rw [tx_len, tx_cps] <;> rfl
theorem take_min {l : List Nat} {a b n : Nat} (h : l.length ≤ n - a) : l.take (min b n - a) = l.take (b - a) := by
  rcases Nat.le_total b n with hb | hb
  · rw [Nat.min_eq_left hb]
  · rw [Nat.min_eq_right hb, List.take_of_length_le h, List.take_of_length_le (by omega)]
theorem cut_nn {t : List Nat} {a b : Nat} : cutS (tx t) (some (a : Int)) (some (b : Int)) = tx ((t.drop a).take (b - a)) := by
  rw [cut_tx, HT.sIx_nat, HT.sIx_nat]
  by_cases h : a ≤ t.length
  · rw [Nat.min_eq_left h, take_min (by rw [List.length_drop]; exact Nat.le_refl _)]
  · have h1 : t.drop a = [] := List.drop_eq_nil_of_le (by omega)
    have h2 : t.drop (min a t.length) = [] := List.drop_eq_nil_of_le (by omega)
    rw [h1, h2]
    simp
theorem cut_n {t : List Nat} {a : Nat} : cutS (tx t) (some (a : Int)) none = tx (t.drop a) := by
  rw [cut_tx, HT.sIx_nat, HT.sIx_none]
  by_cases h : a ≤ t.length
  · rw [Nat.min_eq_left h, List.take_of_length_le (by rw [List.length_drop]; exact Nat.le_refl _)]
  · have h1 : t.drop a = [] := List.drop_eq_nil_of_le (by omega)
    have h2 : t.drop (min a t.length) = [] := List.drop_eq_nil_of_le (by omega)
    rw [h1, h2]
    simp
theorem cut_z {t : List Nat} {b : Nat} : cutS (tx t) none (some (b : Int)) = tx (t.take b) := by
  rw [cut_tx, HT.sIx_nat, HT.sIx_none]
  rw [List.drop_zero, take_min (by omega)]
  rfl
def sg (t : List Nat) (k : Nat) : Str := match t[k]? with
  | some c => ⟨#[c]⟩
  | none => Str.ofString ""
theorem sg_some {t : List Nat} {k c : Nat} (h : t[k]? = some c) : sg t k = ⟨#[c]⟩ := by
  unfold sg
  rw [h]
theorem sg_none {t : List Nat} {k : Nat} (h : t[k]? = none) : sg t k = Str.ofString "" := by
  unfold sg
  rw [h]
theorem cut_sg {t : List Nat} {k : Nat} : cutS (tx t) (some (k : Int)) (some ((k : Int) + 1)) = sg t k := by
  rw [show (k : Int) + 1 = ((k + 1 : Nat) : Int) by omega, cut_nn, Nat.add_sub_cancel_left]
  cases h : t[k]? with
  | none =>
    rw [sg_none h, List.drop_eq_nil_of_le (List.getElem?_eq_none_iff.mp h)]
    rfl
  | some c =>
    rw [sg_some h, drop_get h]
    rfl
/-! ### what a reader holds -/
def ssD (h : Bool) : Str := if h then Str.ofString "." ++ Str.ofString "?" else Str.ofString "."
def rdF (t : List Nat) (h : Bool) (k : Nat) (ea oa : Addr) : List (Str × D) := [("text", .str (tx t)), ("at", .int (k : Int)), ("single_signs", .str (ssD h)), ("entries", .box ea), ("open_entries", .box oa)]
section
variable {t : List Nat} {h : Bool} {k k' : Nat} {ea oa : Addr}
theorem rdF_text : (rdF t h k ea oa).lookup ("text" : Str) = some (.str (tx t)) := by
  unfold rdF
  rfl
theorem rdF_at : (rdF t h k ea oa).lookup ("at" : Str) = some (.int (k : Int)) := by
  unfold rdF
  rfl
theorem rdF_ss : (rdF t h k ea oa).lookup ("single_signs" : Str) = some (.str (ssD h)) := by
  unfold rdF
  rfl
theorem rdF_en : (rdF t h k ea oa).lookup ("entries" : Str) = some (.box ea) := by
  unfold rdF
  rfl
theorem rdF_op : (rdF t h k ea oa).lookup ("open_entries" : Str) = some (.box oa) := by
  unfold rdF
  rfl
theorem rdF_put : putD "at" (.int ((k : Int) + 1)) (rdF t h k ea oa) = rdF t h (k + 1) ea oa := by
  unfold rdF
  rfl
theorem rdF_m {nm : Str} (e : nm = "sign" ∨ nm = "refuse" ∨ nm = "read_symbol" ∨ nm = "read_word_rest" ∨ nm = "open_bracket" ∨ nm = "read_ends" ∨ nm = "read_all") : (rdF t h k ea oa).lookup nm = none := by
  unfold rdF
  rcases e with rfl | rfl | rfl | rfl | rfl | rfl | rfl <;> rfl
end
structure Rd (m0 m : Mu) (C o dx ea oa : Addr) (bs : List Addr) (t : List Nat) (h : Bool) (k : Nat) (row : List Sy) (st : List Nat) : Prop where
  ob : m o = some (.ins C dx (rdF t h k ea oa))
  en : Ents m0 m ea bs row
  op : m oa = some (.lst (st.reverse.map fun i => .box (bs.getD i 0)))
  na : oa ∉ bs
  ne : oa ≠ ea
  n1 : m0 o = none
  n2 : m0 ea = none
  n3 : m0 oa = none
  sub : Sub m0 m
  lt : ∀ i ∈ st, i < row.length
  rl : row.length ≤ k
  sl : st.length ≤ k
  kl : k ≤ t.length
  tl : t.length ≤ 20000
def RdE (m0 m : Mu) (C o : Addr) (t : List Nat) (h : Bool) (k : Nat) (row : List Sy) (st : List Nat) : Prop := ∃ dx ea oa bs, Rd m0 m C o dx ea oa bs t h k row st
section
variable {m0 m : Mu} {C o dx ea oa : Addr} {bs : List Addr} {t : List Nat} {h : Bool} {k : Nat} {row : List Sy} {st : List Nat}
theorem Rd.oea (r : Rd m0 m C o dx ea oa bs t h k row st) : o ≠ ea := fun z => by
  have := r.ob
  rw [z, r.en.lst] at this
  cases this
theorem Rd.ooa (r : Rd m0 m C o dx ea oa bs t h k row st) : o ≠ oa := fun z => by
  have := r.ob
  rw [z, r.op] at this
  cases this
theorem Rd.obs (r : Rd m0 m C o dx ea oa bs t h k row st) : o ∉ bs := fun z => by
  obtain ⟨i, hi⟩ := List.getElem?_of_mem z
  obtain ⟨s, hs⟩ : ∃ s, row[i]? = some s := ⟨_, List.getElem?_eq_getElem (by rw [← r.en.len]; exact (List.getElem?_eq_some_iff.mp hi).1)⟩
  have := r.en.ent i o s hi hs
  rw [r.ob] at this
  cases this
theorem Rd.to (r : Rd m0 m C o dx ea oa bs t h k row st) {j : Nat} (hj : k ≤ j) (hl : j ≤ t.length) : Rd m0 (mset m o (.ins C dx (rdF t h j ea oa))) C o dx ea oa bs t h j row st := by
  refine ⟨mset_same, r.en.other r.oea r.obs, ?_, r.na, r.ne, r.n1, r.n2, r.n3, r.sub.new r.n1, r.lt, Nat.le_trans r.rl hj, Nat.le_trans r.sl hj, hl, r.tl⟩
  rw [mset_ne r.ooa.symm]
  exact r.op
end
/-! ### its methods -/
def sp_sign (C : Addr) : ASp := fun ds m P _ => ∃ (o dx ea oa : Addr) (t : List Nat) (h : Bool) (k : Nat), ds = [.box o] ∧ m o = some (.ins C dx (rdF t h k ea oa)) ∧ t.length ≤ 20000 ∧ P (.str (sg t k)) m
theorem rd_sign {C : Addr} : ∀ ds m Q W, sp_sign C ds m Q W → b_TreeReader_sign C W { nx := fun _ m' => fzE K Q .non m', rt := fzE K Q } (ds.map some ++ List.replicate (N_TreeReader_sign.length - ds.length) none) m := by
  rintro ds m Q W ⟨o, dx, ea, oa, t, h, k, rfl, ho, hl, hq⟩
  change b_TreeReader_sign C W _ [some (.box o)] m
  unfold b_TreeReader_sign
  simp only [aSeq, aSet, aC, aVar, aOp, aTest, aTru, aAnd, aOr, aNot, aAndV, aOrV, aNotV, aIfE, aNil, aCons, aTup, aLst, aLstB, aUn, aCa, aSl, aNo, aPart, aM, aML, aRet, aRetN, aIf, aDo, aNext, aCont, aBrk, aAsg, aCall, aCallX, aMeth, aFld, aSetFld, aFldAug, aAug, aRaise, aMake, aYes, kName, kCons, kNil, kSub, nth, put, wipeD, asT_b, fAdd_i, fAdd_s, fAdd_t, fAdd_l, fSub_i, fLt_i, fLe_i, fGt_i, fGe_i, fMul_i, fMod_i, fFdiv_i, fPow_i, fNeg_i, fEq_i, fEq_s, fEq_b, fNe_i, fNe_s, fNe_b, fIn_s, fNi_s, fIx_t0, fIx_t1, fIx_t2, fIx_l0, fIx_l1, fSl_s, fSl_t, fSl_l, fLen_t, fLen_l, fInt_i, fAbs_i, fMax_i, fMin_i, fTuple_t, fTuple_l, fList_t, fList_l, fRepS_s, seqOf_t, seqOf_l, truD_b, truD_t, truD_l, kTup_t, fIsN_n, fIsi_non_int, fIsi_non_bool, fIsi_non_str, fIsi_non_tuple, fIsi_non_list, fIsi_bl_int, fIsi_bl_bool, fIsi_bl_str, fIsi_bl_tuple, fIsi_bl_list, fIsi_int_int, fIsi_int_bool, fIsi_int_str, fIsi_int_tuple, fIsi_int_list, fIsi_str_int, fIsi_str_bool, fIsi_str_str, fIsi_str_tuple, fIsi_str_list, fIsi_tup_int, fIsi_tup_bool, fIsi_tup_str, fIsi_tup_tuple, fIsi_tup_list, fIsi_lst_int, fIsi_lst_bool, fIsi_lst_str, fIsi_lst_tuple, fIsi_lst_list, isN, fIx_sy0, fIx_sy1, ite_tt, ite_ff, fldOf_b ho, rdF_text, rdF_at, tx_len, cut_sg]
  exact ⟨by omega, fzE.of hq⟩
def sp_refuse (C CI : Addr) : ASp := fun ds m P W => ∃ (o dx ea oa : Addr) (t : List Nat) (h : Bool) (k : Nat), ds = [.box o] ∧ m o = some (.ins C dx (rdF t h k ea oa)) ∧ W CI [("at", .int (k : Int)), ("line", .int 0)] m
theorem rd_refuse {C CI : Addr} : ∀ ds m Q W, sp_refuse C CI ds m Q W → b_TreeReader_refuse CI C W { nx := fun _ m' => fzE K Q .non m', rt := fzE K Q } (ds.map some ++ List.replicate (N_TreeReader_refuse.length - ds.length) none) m := by
  rintro ds m Q W ⟨o, dx, ea, oa, t, h, k, rfl, ho, hq⟩
  change b_TreeReader_refuse CI C W _ [some (.box o)] m
  unfold b_TreeReader_refuse
  simp only [aSeq, aSet, aC, aVar, aOp, aTest, aTru, aAnd, aOr, aNot, aAndV, aOrV, aNotV, aIfE, aNil, aCons, aTup, aLst, aLstB, aUn, aCa, aSl, aNo, aPart, aM, aML, aRet, aRetN, aIf, aDo, aNext, aCont, aBrk, aAsg, aCall, aCallX, aMeth, aFld, aSetFld, aFldAug, aAug, aRaise, aMake, aYes, kName, kCons, kNil, kSub, nth, put, wipeD, asT_b, fAdd_i, fAdd_s, fAdd_t, fAdd_l, fSub_i, fLt_i, fLe_i, fGt_i, fGe_i, fMul_i, fMod_i, fFdiv_i, fPow_i, fNeg_i, fEq_i, fEq_s, fEq_b, fNe_i, fNe_s, fNe_b, fIn_s, fNi_s, fIx_t0, fIx_t1, fIx_t2, fIx_l0, fIx_l1, fSl_s, fSl_t, fSl_l, fLen_t, fLen_l, fInt_i, fAbs_i, fMax_i, fMin_i, fTuple_t, fTuple_l, fList_t, fList_l, fRepS_s, seqOf_t, seqOf_l, truD_b, truD_t, truD_l, kTup_t, fIsN_n, fIsi_non_int, fIsi_non_bool, fIsi_non_str, fIsi_non_tuple, fIsi_non_list, fIsi_bl_int, fIsi_bl_bool, fIsi_bl_str, fIsi_bl_tuple, fIsi_bl_list, fIsi_int_int, fIsi_int_bool, fIsi_int_str, fIsi_int_tuple, fIsi_int_list, fIsi_str_int, fIsi_str_bool, fIsi_str_str, fIsi_str_tuple, fIsi_str_list, fIsi_tup_int, fIsi_tup_bool, fIsi_tup_str, fIsi_tup_tuple, fIsi_tup_list, fIsi_lst_int, fIsi_lst_bool, fIsi_lst_str, fIsi_lst_tuple, fIsi_lst_list, isN, fIx_sy0, fIx_sy1, ite_tt, ite_ff, fldOf_b ho, rdF_at]
  exact hq
def rd1 (t : List Nat) : List (Str × D) := [("text", .str (tx t))]
def rd2 (t : List Nat) : List (Str × D) := [("text", .str (tx t)), ("at", .int 0)]
def rd3 (t : List Nat) (z : Str) : List (Str × D) := [("text", .str (tx t)), ("at", .int 0), ("single_signs", .str z)]
def rd4 (t : List Nat) (z : Str) (a : Addr) : List (Str × D) := [("text", .str (tx t)), ("at", .int 0), ("single_signs", .str z), ("entries", .box a)]
def sp_init (C : Addr) : ASp := fun ds m P _ => ∃ (o dx : Addr) (t : List Nat) (h : Bool), ds = [.box o, .str (tx t), .bl h] ∧ m o = some (.ins C dx []) ∧
  ∀ ea oa m', m ea = none → m oa = none → oa ≠ ea → m' o = some (.ins C dx (rdF t h 0 ea oa)) → m' ea = some (.lst []) → m' oa = some (.lst []) → (∀ a, a ≠ o → a ≠ ea → a ≠ oa → m' a = m a) → P .non m'
theorem rd_init {C : Addr} : ∀ ds m Q W, sp_init C ds m Q W → b_TreeReader_init C (.tup [.str "?", .int 0]) (.str ".") W { nx := fun _ m' => fzE K Q .non m', rt := fzE K Q } (ds.map some ++ List.replicate (N_TreeReader_init.length - ds.length) none) m := by
  rintro ds m Q W ⟨o, dx, t, h, rfl, ho, hq⟩
  change b_TreeReader_init C _ _ W _ [some (.box o), some (.str (tx t)), some (.bl h)] m
  unfold b_TreeReader_init
  have f1 : putD "text" (D.str (tx t)) [] = rd1 t := rfl
  have f2 : putD "at" (D.int 0) (rd1 t) = rd2 t := rfl
  have f3 : ∀ z, putD "single_signs" (D.str z) (rd2 t) = rd3 t z := fun _ => rfl
  have f4 : ∀ z a, putD "entries" (D.box a) (rd3 t z) = rd4 t z a := fun _ _ => rfl
  have f5 : ∀ a b, putD "open_entries" (D.box b) (rd4 t (ssD h) a) = rdF t h 0 a b := fun _ _ => rfl
  have l1 : (rd1 t).length < 1000 := (by decide : 1 < 1000)
  have l2 : (rd2 t).length < 1000 := (by decide : 2 < 1000)
  have l3 : ∀ z, (rd3 t z).length < 1000 := fun _ => (by decide : 3 < 1000)
  have l4 : ∀ z a, (rd4 t z a).length < 1000 := fun _ _ => (by decide : 4 < 1000)
  have rest : ∀ z : Str, z = ssD h → ∀ p : Addr, mset m o (.ins C dx (rd3 t z)) p = none →
      setFld C "entries" (.box o) (.box p) (mset (mset m o (.ins C dx (rd3 t z))) p (.lst [])) fun m3 => ([] : List D).length ≤ 100000 ∧ ∀ q : Addr, m3 q = none → setFld C "open_entries" (.box o) (.box q) (mset m3 q (.lst [])) fun m4 => fzE K Q .non m4 := fun z hz p hp => by
    subst hz
    have po : p ≠ o := fun y => by
      rw [y, mset_same] at hp
      cases hp
    have hmp : m p = none := by
      rw [mset_ne po] at hp
      exact hp
    rw [setFld_b (by rw [mset_ne po.symm, mset_same])]
    rw [f4]
    refine ⟨l3 _, by decide, fun q hq0 => ?_⟩
    have qo : q ≠ o := fun y => by
      rw [y, mset_same] at hq0
      cases hq0
    rw [mset_ne qo] at hq0
    have qp : q ≠ p := fun y => by
      rw [y, mset_same] at hq0
      cases hq0
    rw [mset_ne qp, mset_ne qo] at hq0
    rw [setFld_b (by rw [mset_ne qo.symm, mset_same]), f5]
    refine ⟨l4 _ _, fzE.of (hq p q _ hmp hq0 qp mset_same ?_ ?_ fun a h1 h2 h3 => ?_)⟩
    · rw [mset_ne po, mset_ne qp.symm, mset_ne po, mset_same]
    · rw [mset_ne qo, mset_same]
    · rw [mset_ne h1, mset_ne h3, mset_ne h1, mset_ne h2, mset_ne h1]
  cases h with
  | false =>
    simp only [aSeq, aSet, aC, aVar, aOp, aTest, aTru, aAnd, aOr, aNot, aAndV, aOrV, aNotV, aIfE, aNil, aCons, aTup, aLst, aLstB, aUn, aCa, aSl, aNo, aPart, aM, aML, aRet, aRetN, aIf, aDo, aNext, aCont, aBrk, aAsg, aCall, aCallX, aMeth, aFld, aSetFld, aFldAug, aAug, aRaise, aMake, aYes, kName, kCons, kNil, kSub, nth, put, wipeD, asT_b, fAdd_i, fAdd_s, fAdd_t, fAdd_l, fSub_i, fLt_i, fLe_i, fGt_i, fGe_i, fMul_i, fMod_i, fFdiv_i, fPow_i, fNeg_i, fEq_i, fEq_s, fEq_b, fNe_i, fNe_s, fNe_b, fIn_s, fNi_s, fIx_t0, fIx_t1, fIx_t2, fIx_l0, fIx_l1, fSl_s, fSl_t, fSl_l, fLen_t, fLen_l, fInt_i, fAbs_i, fMax_i, fMin_i, fTuple_t, fTuple_l, fList_t, fList_l, fRepS_s, seqOf_t, seqOf_l, truD_b, truD_t, truD_l, kTup_t, fIsN_n, fIsi_non_int, fIsi_non_bool, fIsi_non_str, fIsi_non_tuple, fIsi_non_list, fIsi_bl_int, fIsi_bl_bool, fIsi_bl_str, fIsi_bl_tuple, fIsi_bl_list, fIsi_int_int, fIsi_int_bool, fIsi_int_str, fIsi_int_tuple, fIsi_int_list, fIsi_str_int, fIsi_str_bool, fIsi_str_str, fIsi_str_tuple, fIsi_str_list, fIsi_tup_int, fIsi_tup_bool, fIsi_tup_str, fIsi_tup_tuple, fIsi_tup_list, fIsi_lst_int, fIsi_lst_bool, fIsi_lst_str, fIsi_lst_tuple, fIsi_lst_list, isN, fIx_sy0, fIx_sy1, ite_tt, ite_ff, setFld_b ho, setFld_b mset_same, mset_mset, truD_b, f1, f2, f3, Bool.false_eq_true, reduceIte]
    exact ⟨by decide, l1, l2, by decide, rest _ rfl⟩
  | true =>
    simp only [aSeq, aSet, aC, aVar, aOp, aTest, aTru, aAnd, aOr, aNot, aAndV, aOrV, aNotV, aIfE, aNil, aCons, aTup, aLst, aLstB, aUn, aCa, aSl, aNo, aPart, aM, aML, aRet, aRetN, aIf, aDo, aNext, aCont, aBrk, aAsg, aCall, aCallX, aMeth, aFld, aSetFld, aFldAug, aAug, aRaise, aMake, aYes, kName, kCons, kNil, kSub, nth, put, wipeD, asT_b, fAdd_i, fAdd_s, fAdd_t, fAdd_l, fSub_i, fLt_i, fLe_i, fGt_i, fGe_i, fMul_i, fMod_i, fFdiv_i, fPow_i, fNeg_i, fEq_i, fEq_s, fEq_b, fNe_i, fNe_s, fNe_b, fIn_s, fNi_s, fIx_t0, fIx_t1, fIx_t2, fIx_l0, fIx_l1, fSl_s, fSl_t, fSl_l, fLen_t, fLen_l, fInt_i, fAbs_i, fMax_i, fMin_i, fTuple_t, fTuple_l, fList_t, fList_l, fRepS_s, seqOf_t, seqOf_l, truD_b, truD_t, truD_l, kTup_t, fIsN_n, fIsi_non_int, fIsi_non_bool, fIsi_non_str, fIsi_non_tuple, fIsi_non_list, fIsi_bl_int, fIsi_bl_bool, fIsi_bl_str, fIsi_bl_tuple, fIsi_bl_list, fIsi_int_int, fIsi_int_bool, fIsi_int_str, fIsi_int_tuple, fIsi_int_list, fIsi_str_int, fIsi_str_bool, fIsi_str_str, fIsi_str_tuple, fIsi_str_list, fIsi_tup_int, fIsi_tup_bool, fIsi_tup_str, fIsi_tup_tuple, fIsi_tup_list, fIsi_lst_int, fIsi_lst_bool, fIsi_lst_str, fIsi_lst_tuple, fIsi_lst_list, isN, fIx_sy0, fIx_sy1, ite_tt, ite_ff, setFld_b ho, setFld_b mset_same, mset_mset, truD_b, f1, f2, f3, Bool.false_eq_true, reduceIte]
    exact ⟨by decide, l1, by decide, l2, by decide, rest _ rfl⟩
end AL
set_option maxHeartbeats 4000000
namespace AL
open PySem L2 Evl
variable {K : PySem.W.Frag}
theorem mem_ws {c : Nat} : decide (c ∈ (Str.ofString "abcdefghijklmnopqrstuvwxyz0123456789-").cps.toList) = decide (wsg c) := by
  have : (Str.ofString "abcdefghijklmnopqrstuvwxyz0123456789-").cps.toList = [97, 98, 99, 100, 101, 102, 103, 104, 105, 106, 107, 108, 109, 110, 111, 112, 113, 114, 115, 116, 117, 118, 119, 120, 121, 122, 48, 49, 50, 51, 52, 53, 54, 55, 56, 57, 45] := by rfl
  rw [this]
  apply decide_eq_decide.mpr
  unfold wsg low
  simp only [List.mem_cons, List.not_mem_nil, or_false]
  omega
def fst (h : Bool) (c : Nat) : Prop := low c ∨ c = 46 ∨ (h = true ∧ c = 63)
instance {h : Bool} : DecidablePred (fst h) := fun c => by unfold fst; infer_instance
theorem mem_fst {h : Bool} {c : Nat} : decide (c ∈ (Str.ofString "abcdefghijklmnopqrstuvwxyz" ++ ssD h).cps.toList) = decide (fst h c) := by
  cases h with
  | false =>
    have : (Str.ofString "abcdefghijklmnopqrstuvwxyz" ++ ssD false).cps.toList = [97, 98, 99, 100, 101, 102, 103, 104, 105, 106, 107, 108, 109, 110, 111, 112, 113, 114, 115, 116, 117, 118, 119, 120, 121, 122, 46] := by rfl
    rw [this]
    apply decide_eq_decide.mpr
    unfold fst low
    simp only [List.mem_cons, List.not_mem_nil, or_false, Bool.false_eq_true, false_and]
    omega
  | true =>
    have : (Str.ofString "abcdefghijklmnopqrstuvwxyz" ++ ssD true).cps.toList = [97, 98, 99, 100, 101, 102, 103, 104, 105, 106, 107, 108, 109, 110, 111, 112, 113, 114, 115, 116, 117, 118, 119, 120, 121, 122, 46, 63] := by rfl
    rw [this]
    apply decide_eq_decide.mpr
    unfold fst low
    simp only [List.mem_cons, List.not_mem_nil, or_false, true_and]
    omega
/-! ### the rest of a word -/
def restN : List Nat → Nat → Nat
  | [], _ => 0
  | c :: s, n => if wsg c ∧ 0 < n then restN s (n - 1) + 1 else 0
theorem restN_go {c : Nat} {s : List Nat} {n : Nat} (h : wsg c ∧ 0 < n) : restN (c :: s) n = restN s (n - 1) + 1 := if_pos h
theorem restN_no {c : Nat} {s : List Nat} {n : Nat} (h : ¬(wsg c ∧ 0 < n)) : restN (c :: s) n = 0 := if_neg h
theorem restN_le : ∀ (s : List Nat) (n : Nat), restN s n ≤ s.length ∧ restN s n ≤ n
  | [], n => ⟨Nat.le_refl _, Nat.zero_le _⟩
  | c :: s, n => by
    by_cases h : wsg c ∧ 0 < n
    · rw [restN_go h, List.length_cons]
      have := restN_le s (n - 1)
      omega
    · rw [restN_no h]
      exact ⟨Nat.zero_le _, Nat.zero_le _⟩
theorem restN_all : ∀ (s : List Nat) (n : Nat), ∀ x ∈ s.take (restN s n), wsg x
  | [], n => by simp [restN]
  | c :: s, n => by
    by_cases h : wsg c ∧ 0 < n
    · rw [restN_go h, List.take_succ_cons]
      intro x hx
      rcases List.mem_cons.mp hx with rfl | hx
      · exact h.1
      · exact restN_all s (n - 1) x hx
    · rw [restN_no h]
      intro x hx
      cases hx
theorem restN_end : ∀ (s : List Nat) (n c : Nat), s[restN s n]? = some c → ¬(wsg c ∧ restN s n < n)
  | [], n, c, h => by cases h
  | d :: s, n, c, h => by
    by_cases hd : wsg d ∧ 0 < n
    · rw [restN_go hd] at h ⊢
      rw [List.getElem?_cons_succ] at h
      have := restN_end s (n - 1) c h
      exact fun z => this ⟨z.1, by omega⟩
    · rw [restN_no hd] at h ⊢
      rw [List.getElem?_cons_zero] at h
      cases h
      exact hd
theorem rdF_len {t : List Nat} {h : Bool} {k : Nat} {ea oa : Addr} : (rdF t h k ea oa).length < 1000 := (by decide : 5 < 1000)
def sp_rest (C : Addr) : ASp := fun ds m P _ => ∃ (o dx ea oa : Addr) (t : List Nat) (h : Bool) (b k : Nat), ds = [.box o, .int (b : Int)] ∧ m o = some (.ins C dx (rdF t h k ea oa)) ∧ t.length ≤ 20000 ∧ b ≤ k ∧ k ≤ t.length ∧
  P .non (mset m o (.ins C dx (rdF t h (k + restN (t.drop k) (b + 16 - k)) ea oa)))
theorem rd_rest {C : Addr} : ∀ ds m Q W, sp_rest C ds m Q W → b_TreeReader_read_word_rest C (.int 16) (.str "abcdefghijklmnopqrstuvwxyz0123456789-") (sp_sign C) W { nx := fun _ m' => fzE K Q .non m', rt := fzE K Q } (ds.map some ++ List.replicate (N_TreeReader_read_word_rest.length - ds.length) none) m := by
  rintro ds m Q W ⟨o, dx, ea, oa, t, h, b, k, rfl, ho, hl, hbk, hkl, hq⟩
  change b_TreeReader_read_word_rest C _ _ (sp_sign C) W _ [some (.box o), some (.int (b : Int)), none] m
  unfold b_TreeReader_read_word_rest
  have hi : ∀ (m' : Mu) j, m' o = some (.ins C dx (rdF t h j ea oa)) → isI C "sign" m' (.box o) = True := fun m' j hm => isI_b hm (rdF_m (.inl rfl))
  simp only [aSeq, aSet, aC, aVar, aOp, aTest, aTru, aAnd, aOr, aNot, aAndV, aOrV, aNotV, aIfE, aNil, aCons, aTup, aLst, aLstB, aUn, aCa, aSl, aNo, aPart, aM, aML, aRet, aRetN, aIf, aDo, aNext, aCont, aBrk, aAsg, aCall, aCallX, aMeth, aFld, aSetFld, aFldAug, aAug, aRaise, aMake, aYes, kName, kCons, kNil, kSub, nth, put, wipeD, asT_b, fAdd_i, fAdd_s, fAdd_t, fAdd_l, fSub_i, fLt_i, fLe_i, fGt_i, fGe_i, fMul_i, fMod_i, fFdiv_i, fPow_i, fNeg_i, fEq_i, fEq_s, fEq_b, fNe_i, fNe_s, fNe_b, fIn_s, fNi_s, fIx_t0, fIx_t1, fIx_t2, fIx_l0, fIx_l1, fSl_s, fSl_t, fSl_l, fLen_t, fLen_l, fInt_i, fAbs_i, fMax_i, fMin_i, fTuple_t, fTuple_l, fList_t, fList_l, fRepS_s, seqOf_t, seqOf_l, truD_b, truD_t, truD_l, kTup_t, fIsN_n, fIsi_non_int, fIsi_non_bool, fIsi_non_str, fIsi_non_tuple, fIsi_non_list, fIsi_bl_int, fIsi_bl_bool, fIsi_bl_str, fIsi_bl_tuple, fIsi_bl_list, fIsi_int_int, fIsi_int_bool, fIsi_int_str, fIsi_int_tuple, fIsi_int_list, fIsi_str_int, fIsi_str_bool, fIsi_str_str, fIsi_str_tuple, fIsi_str_list, fIsi_tup_int, fIsi_tup_bool, fIsi_tup_str, fIsi_tup_tuple, fIsi_tup_list, fIsi_lst_int, fIsi_lst_bool, fIsi_lst_str, fIsi_lst_tuple, fIsi_lst_list, isN, fIx_sy0, fIx_sy1, ite_tt, ite_ff, hi m k ho]
  refine ⟨trivial, o, dx, ea, oa, t, h, k, rfl, ho, hl, ?_⟩
  refine ⟨fun n g m' => ∃ j, g = [some (.box o), some (.int (b : Int)), some (.str (sg t j))] ∧ m' = mset m o (.ins C dx (rdF t h j ea oa)) ∧ n = t.length - j ∧ k ≤ j ∧ j ≤ t.length ∧ j + restN (t.drop j) (b + 16 - j) = k + restN (t.drop k) (b + 16 - k), ⟨_, k, rfl, (mset_self ho).symm, rfl, Nat.le_refl _, hkl, rfl⟩, ?_⟩
  rintro n g m' ⟨j, rfl, rfl, rfl, hkj, hjl, hr⟩
  have hoj : mset m o (.ins C dx (rdF t h j ea oa)) o = some (.ins C dx (rdF t h j ea oa)) := mset_same
  cases hc : t[j]? with
  | none =>
    rw [sg_none hc]
    simp only [aSeq, aSet, aC, aVar, aOp, aTest, aTru, aAnd, aOr, aNot, aAndV, aOrV, aNotV, aIfE, aNil, aCons, aTup, aLst, aLstB, aUn, aCa, aSl, aNo, aPart, aM, aML, aRet, aRetN, aIf, aDo, aNext, aCont, aBrk, aAsg, aCall, aCallX, aMeth, aFld, aSetFld, aFldAug, aAug, aRaise, aMake, aYes, kName, kCons, kNil, kSub, nth, put, wipeD, asT_b, fAdd_i, fAdd_s, fAdd_t, fAdd_l, fSub_i, fLt_i, fLe_i, fGt_i, fGe_i, fMul_i, fMod_i, fFdiv_i, fPow_i, fNeg_i, fEq_i, fEq_s, fEq_b, fNe_i, fNe_s, fNe_b, fIn_s, fNi_s, fIx_t0, fIx_t1, fIx_t2, fIx_l0, fIx_l1, fSl_s, fSl_t, fSl_l, fLen_t, fLen_l, fInt_i, fAbs_i, fMax_i, fMin_i, fTuple_t, fTuple_l, fList_t, fList_l, fRepS_s, seqOf_t, seqOf_l, truD_b, truD_t, truD_l, kTup_t, fIsN_n, fIsi_non_int, fIsi_non_bool, fIsi_non_str, fIsi_non_tuple, fIsi_non_list, fIsi_bl_int, fIsi_bl_bool, fIsi_bl_str, fIsi_bl_tuple, fIsi_bl_list, fIsi_int_int, fIsi_int_bool, fIsi_int_str, fIsi_int_tuple, fIsi_int_list, fIsi_str_int, fIsi_str_bool, fIsi_str_str, fIsi_str_tuple, fIsi_str_list, fIsi_tup_int, fIsi_tup_bool, fIsi_tup_str, fIsi_tup_tuple, fIsi_tup_list, fIsi_lst_int, fIsi_lst_bool, fIsi_lst_str, fIsi_lst_tuple, fIsi_lst_list, isN, fIx_sy0, fIx_sy1, ite_tt, ite_ff, decide_true, Bool.not_true, Bool.false_eq_true, reduceIte]
    rw [List.drop_eq_nil_of_le (List.getElem?_eq_none_iff.mp hc)] at hr
    rw [← hr] at hq
    exact fzE.of hq
  | some c =>
    rw [drop_get hc] at hr
    have hjt := (List.getElem?_eq_some_iff.mp hc).1
    rw [sg_some hc]
    simp only [aSeq, aSet, aC, aVar, aOp, aTest, aTru, aAnd, aOr, aNot, aAndV, aOrV, aNotV, aIfE, aNil, aCons, aTup, aLst, aLstB, aUn, aCa, aSl, aNo, aPart, aM, aML, aRet, aRetN, aIf, aDo, aNext, aCont, aBrk, aAsg, aCall, aCallX, aMeth, aFld, aSetFld, aFldAug, aAug, aRaise, aMake, aYes, kName, kCons, kNil, kSub, nth, put, wipeD, asT_b, fAdd_i, fAdd_s, fAdd_t, fAdd_l, fSub_i, fLt_i, fLe_i, fGt_i, fGe_i, fMul_i, fMod_i, fFdiv_i, fPow_i, fNeg_i, fEq_i, fEq_s, fEq_b, fNe_i, fNe_s, fNe_b, fIn_s, fNi_s, fIx_t0, fIx_t1, fIx_t2, fIx_l0, fIx_l1, fSl_s, fSl_t, fSl_l, fLen_t, fLen_l, fInt_i, fAbs_i, fMax_i, fMin_i, fTuple_t, fTuple_l, fList_t, fList_l, fRepS_s, seqOf_t, seqOf_l, truD_b, truD_t, truD_l, kTup_t, fIsN_n, fIsi_non_int, fIsi_non_bool, fIsi_non_str, fIsi_non_tuple, fIsi_non_list, fIsi_bl_int, fIsi_bl_bool, fIsi_bl_str, fIsi_bl_tuple, fIsi_bl_list, fIsi_int_int, fIsi_int_bool, fIsi_int_str, fIsi_int_tuple, fIsi_int_list, fIsi_str_int, fIsi_str_bool, fIsi_str_str, fIsi_str_tuple, fIsi_str_list, fIsi_tup_int, fIsi_tup_bool, fIsi_tup_str, fIsi_tup_tuple, fIsi_tup_list, fIsi_lst_int, fIsi_lst_bool, fIsi_lst_str, fIsi_lst_tuple, fIsi_lst_list, isN, fIx_sy0, fIx_sy1, ite_tt, ite_ff, dq_emp, Bool.not_false, mem_ws, fldOf_b hoj, rdF_at, reduceIte]
    by_cases hw : wsg c
    · rw [if_pos (decide_eq_true hw)]
      by_cases hn : (j : Int) - b < 16
      · rw [if_pos (decide_eq_true hn), setFld_b hoj, rdF_put, mset_mset]
        rw [restN_go ⟨hw, by omega⟩] at hr
        refine ⟨rdF_len, ?_, o, dx, ea, oa, t, h, j + 1, rfl, mset_same, hl, t.length - (j + 1), by omega, j + 1, by trivial, rfl, rfl, by omega, hjt, ?_⟩
        · rw [hi _ _ mset_same]
          trivial
        · rw [show b + 16 - (j + 1) = b + 16 - j - 1 by omega]
          omega
      · rw [if_neg (by simpa using hn)]
        rw [restN_no (by omega)] at hr
        rw [← hr] at hq
        exact fzE.of hq
    · rw [if_neg (by simp [hw])]
      rw [restN_no (fun z => hw z.1)] at hr
      rw [← hr] at hq
      exact fzE.of hq
end AL
set_option maxHeartbeats 4000000
namespace AL
open PySem L2 Evl
variable {K : PySem.W.Frag}
section
variable {m0 m : Mu} {C o dx ea oa p : Addr} {bs : List Addr} {t : List Nat} {h : Bool} {k : Nat} {row : List Sy} {st : List Nat} {s : Sy} {i : Nat}
theorem getD_of {b : Addr} (hb : bs[i]? = some b) : bs.getD i 0 = b := by
  rw [List.getD_eq_getElem?_getD, hb]
  rfl
theorem Rd.push (r : Rd m0 m C o dx ea oa bs t h k row st) (hr : row.length + 1 ≤ k) (hp : m p = none) :
    Rd m0 (mset (mset m p (entO s)) ea (.lst (bs.map .box ++ [.box p]))) C o dx ea oa (bs ++ [p]) t h k (row ++ [s]) st := by
  obtain ⟨g1, g2, g3⟩ := r.en.add (s := s) r.sub hp
  have po : p ≠ o := fun z => by
    rw [z, r.ob] at hp
    cases hp
  have pa : p ≠ oa := fun z => by
    rw [z, r.op] at hp
    cases hp
  refine ⟨?_, g1, ?_, ?_, r.ne, r.n1, r.n2, r.n3, (r.sub.new (r.sub.non hp)).new r.n2, fun j hj => ?_, by simp; omega, r.sl, r.kl, r.tl⟩
  · rw [mset_ne r.oea, mset_ne po.symm]
    exact r.ob
  · rw [mset_ne r.ne, mset_ne pa.symm, r.op]
    congr 2
    refine List.map_congr_left fun j hj => ?_
    have := r.lt j (by simpa using hj)
    have hl : j < bs.length := by rw [r.en.len]; exact this
    rw [List.getD_eq_getElem?_getD, List.getD_eq_getElem?_getD, List.getElem?_append_left hl]
  · intro z
    rcases List.mem_append.mp z with z | z
    · exact r.na z
    · exact pa (List.mem_singleton.mp z).symm
  · have := r.lt j hj
    rw [List.length_append]
    omega
theorem Rd.upd {f : Sy → Sy} {b : Addr} (r : Rd m0 m C o dx ea oa bs t h k row st) (hs : row[i]? = some s) (hb : bs[i]? = some b) : Rd m0 (mset m b (entO (f s))) C o dx ea oa bs t h k (modS f row i) st := by
  have hbm := List.mem_of_getElem? hb
  have bo : b ≠ o := fun z => r.obs (by rw [← z]; exact hbm)
  have ba : b ≠ oa := fun z => r.na (by rw [← z]; exact hbm)
  refine ⟨?_, r.en.upd hs hb, ?_, r.na, r.ne, r.n1, r.n2, r.n3, r.sub.new (r.en.new b hbm), fun j hj => ?_, by rw [modS_len]; exact r.rl, r.sl, r.kl, r.tl⟩
  · rw [mset_ne bo.symm]
    exact r.ob
  · rw [mset_ne ba.symm]
    exact r.op
  · rw [modS_len]
    exact r.lt j hj
theorem Rd.more {b : Addr} (r : Rd m0 m C o dx ea oa bs t h k row st) (hs : i < row.length) (hb : bs[i]? = some b) (hk : st.length + 1 ≤ k) : Rd m0 (mset m oa (.lst ((st.reverse.map fun i => .box (bs.getD i 0)) ++ [.box b]))) C o dx ea oa bs t h k row (i :: st) := by
  refine ⟨?_, r.en.other r.ne r.na, ?_, r.na, r.ne, r.n1, r.n2, r.n3, r.sub.new r.n3, fun j hj => ?_, r.rl, by rw [List.length_cons]; exact hk, r.kl, r.tl⟩
  · rw [mset_ne r.ooa]
    exact r.ob
  · rw [mset_same, List.reverse_cons, List.map_append, List.map_singleton, getD_of hb]
  · rcases List.mem_cons.mp hj with rfl | hj
    · exact hs
    · exact r.lt j hj
theorem Rd.less (r : Rd m0 m C o dx ea oa bs t h k row (i :: st)) : Rd m0 (mset m oa (.lst (st.reverse.map fun i => .box (bs.getD i 0)))) C o dx ea oa bs t h k row st := by
  refine ⟨?_, r.en.other r.ne r.na, mset_same, r.na, r.ne, r.n1, r.n2, r.n3, r.sub.new r.n3, fun j hj => r.lt j (List.mem_cons_of_mem _ hj), r.rl, ?_, r.kl, r.tl⟩
  · rw [mset_ne r.ooa]
    exact r.ob
  · have := r.sl
    rw [List.length_cons] at this
    omega
theorem Rd.isI {nm : Str} (r : Rd m0 m C o dx ea oa bs t h k row st) (e : nm = "sign" ∨ nm = "refuse" ∨ nm = "read_symbol" ∨ nm = "read_word_rest" ∨ nm = "open_bracket" ∨ nm = "read_ends" ∨ nm = "read_all") : AL.isI C nm m (.box o) = True := isI_b r.ob (rdF_m e)
end
/-! ### a symbol read -/
def symN (h : Bool) (t : List Nat) (k : Nat) : Option (Nat × List Nat × Bool) := match t[k]? with
  | none => none
  | some c => if low c then some (k + 1 + restN (t.drop (k + 1)) 15, c :: (t.drop (k + 1)).take (restN (t.drop (k + 1)) 15), true) else if c = 46 ∨ (h = true ∧ c = 63) then some (k + 1, [c], false) else none
def erD (j : Nat) : List (Str × D) := [("at", .int (j : Int)), ("line", .int 0)]
def sp_symbol (C CI : Addr) : ASp := fun ds m P W => ∃ (m0 : Mu) (o : Addr) (t : List Nat) (h : Bool) (k : Nat) (row : List Sy) (st : List Nat), ds = [.box o] ∧ RdE m0 m C o t h k row st ∧
  (symN h t k = none → W CI (erD k) m) ∧ ∀ k' w b m', symN h t k = some (k', w, b) → RdE m0 m' C o t h k' (row ++ [⟨w, 0⟩]) st → P (.bl b) m'
theorem rd_symbol {C CI : Addr} : ∀ ds m Q W, sp_symbol C CI ds m Q W → b_TreeReader_read_symbol C (.str "abcdefghijklmnopqrstuvwxyz") (sp_rest C) (sp_refuse C CI) (sp_sign C) W { nx := fun _ m' => fzE K Q .non m', rt := fzE K Q } (ds.map some ++ List.replicate (N_TreeReader_read_symbol.length - ds.length) none) m := by
  rintro ds m Q W ⟨m0, o, t, h, k, row, st, rfl, ⟨dx, ea, oa, bs, r⟩, hw, hq⟩
  change b_TreeReader_read_symbol C _ _ _ _ W _ [some (.box o), none, none] m
  unfold b_TreeReader_read_symbol
  have tl := r.tl
  simp only [aSeq, aSet, aC, aVar, aOp, aTest, aTru, aAnd, aOr, aNot, aAndV, aOrV, aNotV, aIfE, aNil, aCons, aTup, aLst, aLstB, aUn, aCa, aSl, aNo, aPart, aM, aML, aRet, aRetN, aIf, aDo, aNext, aCont, aBrk, aAsg, aCall, aCallX, aMeth, aFld, aSetFld, aFldAug, aAug, aRaise, aMake, aYes, kName, kCons, kNil, kSub, nth, put, wipeD, asT_b, fAdd_i, fAdd_s, fAdd_t, fAdd_l, fSub_i, fLt_i, fLe_i, fGt_i, fGe_i, fMul_i, fMod_i, fFdiv_i, fPow_i, fNeg_i, fEq_i, fEq_s, fEq_b, fNe_i, fNe_s, fNe_b, fIn_s, fNi_s, fIx_t0, fIx_t1, fIx_t2, fIx_l0, fIx_l1, fSl_s, fSl_t, fSl_l, fLen_t, fLen_l, fInt_i, fAbs_i, fMax_i, fMin_i, fTuple_t, fTuple_l, fList_t, fList_l, fRepS_s, seqOf_t, seqOf_l, truD_b, truD_t, truD_l, kTup_t, fIsN_n, fIsi_non_int, fIsi_non_bool, fIsi_non_str, fIsi_non_tuple, fIsi_non_list, fIsi_bl_int, fIsi_bl_bool, fIsi_bl_str, fIsi_bl_tuple, fIsi_bl_list, fIsi_int_int, fIsi_int_bool, fIsi_int_str, fIsi_int_tuple, fIsi_int_list, fIsi_str_int, fIsi_str_bool, fIsi_str_str, fIsi_str_tuple, fIsi_str_list, fIsi_tup_int, fIsi_tup_bool, fIsi_tup_str, fIsi_tup_tuple, fIsi_tup_list, fIsi_lst_int, fIsi_lst_bool, fIsi_lst_str, fIsi_lst_tuple, fIsi_lst_list, isN, fIx_sy0, fIx_sy1, ite_tt, ite_ff, fldOf_b r.ob, rdF_at, r.isI (nm := "sign") (.inl rfl)]
  refine ⟨trivial, o, dx, ea, oa, t, h, k, rfl, r.ob, r.tl, ?_⟩
  refine cut_plain ?_
  cases hc : t[k]? with
  | none =>
    rw [sg_none hc]
    have hn : symN h t k = none := by
      unfold symN
      rw [hc]
    simp only [aSeq, aSet, aC, aVar, aOp, aTest, aTru, aAnd, aOr, aNot, aAndV, aOrV, aNotV, aIfE, aNil, aCons, aTup, aLst, aLstB, aUn, aCa, aSl, aNo, aPart, aM, aML, aRet, aRetN, aIf, aDo, aNext, aCont, aBrk, aAsg, aCall, aCallX, aMeth, aFld, aSetFld, aFldAug, aAug, aRaise, aMake, aYes, kName, kCons, kNil, kSub, nth, put, wipeD, asT_b, fAdd_i, fAdd_s, fAdd_t, fAdd_l, fSub_i, fLt_i, fLe_i, fGt_i, fGe_i, fMul_i, fMod_i, fFdiv_i, fPow_i, fNeg_i, fEq_i, fEq_s, fEq_b, fNe_i, fNe_s, fNe_b, fIn_s, fNi_s, fIx_t0, fIx_t1, fIx_t2, fIx_l0, fIx_l1, fSl_s, fSl_t, fSl_l, fLen_t, fLen_l, fInt_i, fAbs_i, fMax_i, fMin_i, fTuple_t, fTuple_l, fList_t, fList_l, fRepS_s, seqOf_t, seqOf_l, truD_b, truD_t, truD_l, kTup_t, fIsN_n, fIsi_non_int, fIsi_non_bool, fIsi_non_str, fIsi_non_tuple, fIsi_non_list, fIsi_bl_int, fIsi_bl_bool, fIsi_bl_str, fIsi_bl_tuple, fIsi_bl_list, fIsi_int_int, fIsi_int_bool, fIsi_int_str, fIsi_int_tuple, fIsi_int_list, fIsi_str_int, fIsi_str_bool, fIsi_str_str, fIsi_str_tuple, fIsi_str_list, fIsi_tup_int, fIsi_tup_bool, fIsi_tup_str, fIsi_tup_tuple, fIsi_tup_list, fIsi_lst_int, fIsi_lst_bool, fIsi_lst_str, fIsi_lst_tuple, fIsi_lst_list, isN, fIx_sy0, fIx_sy1, ite_tt, ite_ff, decide_true, reduceIte, r.isI (nm := "refuse") (.inr (.inl rfl))]
    exact ⟨trivial, o, dx, ea, oa, t, h, k, rfl, r.ob, hw hn⟩
  | some c =>
    rw [sg_some hc]
    have hkt := (List.getElem?_eq_some_iff.mp hc).1
    have ls : (Str.ofString "abcdefghijklmnopqrstuvwxyz").length + (ssD h).length ≤ 1000000 := by cases h <;> decide
    simp only [aSeq, aSet, aC, aVar, aOp, aTest, aTru, aAnd, aOr, aNot, aAndV, aOrV, aNotV, aIfE, aNil, aCons, aTup, aLst, aLstB, aUn, aCa, aSl, aNo, aPart, aM, aML, aRet, aRetN, aIf, aDo, aNext, aCont, aBrk, aAsg, aCall, aCallX, aMeth, aFld, aSetFld, aFldAug, aAug, aRaise, aMake, aYes, kName, kCons, kNil, kSub, nth, put, wipeD, asT_b, fAdd_i, fAdd_s, fAdd_t, fAdd_l, fSub_i, fLt_i, fLe_i, fGt_i, fGe_i, fMul_i, fMod_i, fFdiv_i, fPow_i, fNeg_i, fEq_i, fEq_s, fEq_b, fNe_i, fNe_s, fNe_b, fIn_s, fNi_s, fIx_t0, fIx_t1, fIx_t2, fIx_l0, fIx_l1, fSl_s, fSl_t, fSl_l, fLen_t, fLen_l, fInt_i, fAbs_i, fMax_i, fMin_i, fTuple_t, fTuple_l, fList_t, fList_l, fRepS_s, seqOf_t, seqOf_l, truD_b, truD_t, truD_l, kTup_t, fIsN_n, fIsi_non_int, fIsi_non_bool, fIsi_non_str, fIsi_non_tuple, fIsi_non_list, fIsi_bl_int, fIsi_bl_bool, fIsi_bl_str, fIsi_bl_tuple, fIsi_bl_list, fIsi_int_int, fIsi_int_bool, fIsi_int_str, fIsi_int_tuple, fIsi_int_list, fIsi_str_int, fIsi_str_bool, fIsi_str_str, fIsi_str_tuple, fIsi_str_list, fIsi_tup_int, fIsi_tup_bool, fIsi_tup_str, fIsi_tup_tuple, fIsi_tup_list, fIsi_lst_int, fIsi_lst_bool, fIsi_lst_str, fIsi_lst_tuple, fIsi_lst_list, isN, fIx_sy0, fIx_sy1, ite_tt, ite_ff, dq_emp, Bool.false_eq_true, reduceIte, fldOf_b r.ob, rdF_ss, rdF_at, mem_fst, ls, true_and]
    by_cases hf : fst h c
    · rw [if_neg (by simp [hf]), setFld_b r.ob, rdF_put]
      refine ⟨rdF_len, ?_⟩
      have r1 := r.to (j := k + 1) (by omega) (by omega)
      refine ⟨fun g' m2 => ∃ (j : Nat) (w : List Nat) (b : Bool), g' = [some (.box o), some (.int (k : Int)), some (.str ⟨#[c]⟩)] ∧ symN h t k = some (j, w, b) ∧ Rd m0 m2 C o dx ea oa bs t h j row st ∧ k + 1 ≤ j ∧ (t.drop k).take (j - k) = w ∧ b = decide (low c), ?_, ?_⟩
      · by_cases hlo : low c
        · simp only [aSeq, aSet, aC, aVar, aOp, aTest, aTru, aAnd, aOr, aNot, aAndV, aOrV, aNotV, aIfE, aNil, aCons, aTup, aLst, aLstB, aUn, aCa, aSl, aNo, aPart, aM, aML, aRet, aRetN, aIf, aDo, aNext, aCont, aBrk, aAsg, aCall, aCallX, aMeth, aFld, aSetFld, aFldAug, aAug, aRaise, aMake, aYes, kName, kCons, kNil, kSub, nth, put, wipeD, asT_b, fAdd_i, fAdd_s, fAdd_t, fAdd_l, fSub_i, fLt_i, fLe_i, fGt_i, fGe_i, fMul_i, fMod_i, fFdiv_i, fPow_i, fNeg_i, fEq_i, fEq_s, fEq_b, fNe_i, fNe_s, fNe_b, fIn_s, fNi_s, fIx_t0, fIx_t1, fIx_t2, fIx_l0, fIx_l1, fSl_s, fSl_t, fSl_l, fLen_t, fLen_l, fInt_i, fAbs_i, fMax_i, fMin_i, fTuple_t, fTuple_l, fList_t, fList_l, fRepS_s, seqOf_t, seqOf_l, truD_b, truD_t, truD_l, kTup_t, fIsN_n, fIsi_non_int, fIsi_non_bool, fIsi_non_str, fIsi_non_tuple, fIsi_non_list, fIsi_bl_int, fIsi_bl_bool, fIsi_bl_str, fIsi_bl_tuple, fIsi_bl_list, fIsi_int_int, fIsi_int_bool, fIsi_int_str, fIsi_int_tuple, fIsi_int_list, fIsi_str_int, fIsi_str_bool, fIsi_str_str, fIsi_str_tuple, fIsi_str_list, fIsi_tup_int, fIsi_tup_bool, fIsi_tup_str, fIsi_tup_tuple, fIsi_tup_list, fIsi_lst_int, fIsi_lst_bool, fIsi_lst_str, fIsi_lst_tuple, fIsi_lst_list, isN, fIx_sy0, fIx_sy1, ite_tt, ite_ff, mem_low, decide_eq_true hlo, reduceIte, r1.isI (nm := "read_word_rest") (.inr (.inr (.inr (.inl rfl))))]
          refine ⟨trivial, o, dx, ea, oa, t, h, k, k + 1, rfl, r1.ob, r.tl, by omega, by omega, ?_⟩
          rw [show k + 16 - (k + 1) = 15 by omega, mset_mset]
          have hle := restN_le (t.drop (k + 1)) 15
          rw [List.length_drop] at hle
          refine ⟨_, c :: (t.drop (k + 1)).take (restN (t.drop (k + 1)) 15), true, by trivial, ?_, r.to (j := k + 1 + restN (t.drop (k + 1)) 15) (by omega) (by omega), by omega, ?_, by first | rfl | exact (decide_eq_true hlo).symm⟩
          · unfold symN
            rw [hc]
            show (if low c then _ else _) = _
            rw [if_pos hlo]
          · rw [drop_get hc, show k + 1 + restN (t.drop (k + 1)) 15 - k = restN (t.drop (k + 1)) 15 + 1 by omega, List.take_succ_cons]
        · simp only [aSeq, aSet, aC, aVar, aOp, aTest, aTru, aAnd, aOr, aNot, aAndV, aOrV, aNotV, aIfE, aNil, aCons, aTup, aLst, aLstB, aUn, aCa, aSl, aNo, aPart, aM, aML, aRet, aRetN, aIf, aDo, aNext, aCont, aBrk, aAsg, aCall, aCallX, aMeth, aFld, aSetFld, aFldAug, aAug, aRaise, aMake, aYes, kName, kCons, kNil, kSub, nth, put, wipeD, asT_b, fAdd_i, fAdd_s, fAdd_t, fAdd_l, fSub_i, fLt_i, fLe_i, fGt_i, fGe_i, fMul_i, fMod_i, fFdiv_i, fPow_i, fNeg_i, fEq_i, fEq_s, fEq_b, fNe_i, fNe_s, fNe_b, fIn_s, fNi_s, fIx_t0, fIx_t1, fIx_t2, fIx_l0, fIx_l1, fSl_s, fSl_t, fSl_l, fLen_t, fLen_l, fInt_i, fAbs_i, fMax_i, fMin_i, fTuple_t, fTuple_l, fList_t, fList_l, fRepS_s, seqOf_t, seqOf_l, truD_b, truD_t, truD_l, kTup_t, fIsN_n, fIsi_non_int, fIsi_non_bool, fIsi_non_str, fIsi_non_tuple, fIsi_non_list, fIsi_bl_int, fIsi_bl_bool, fIsi_bl_str, fIsi_bl_tuple, fIsi_bl_list, fIsi_int_int, fIsi_int_bool, fIsi_int_str, fIsi_int_tuple, fIsi_int_list, fIsi_str_int, fIsi_str_bool, fIsi_str_str, fIsi_str_tuple, fIsi_str_list, fIsi_tup_int, fIsi_tup_bool, fIsi_tup_str, fIsi_tup_tuple, fIsi_tup_list, fIsi_lst_int, fIsi_lst_bool, fIsi_lst_str, fIsi_lst_tuple, fIsi_lst_list, isN, fIx_sy0, fIx_sy1, ite_tt, ite_ff, mem_low, decide_eq_false hlo, Bool.false_eq_true, reduceIte]
          refine ⟨k + 1, [c], false, by trivial, ?_, r1, by omega, ?_, by first | rfl | exact (decide_eq_false hlo).symm⟩
          · unfold symN
            rw [hc]
            show (if low c then _ else if (c = 46 ∨ (h = true ∧ c = 63)) then some (k + 1, [c], false) else none) = _
            rw [if_neg hlo, if_pos (hf.resolve_left hlo)]
          · rw [drop_get hc, Nat.add_sub_cancel_left]
            rfl
      · rintro g' m2 ⟨j, w, b, rfl, e, r2, hj, hw2, hb⟩
        have hrl := r.rl
        simp only [aSeq, aSet, aC, aVar, aOp, aTest, aTru, aAnd, aOr, aNot, aAndV, aOrV, aNotV, aIfE, aNil, aCons, aTup, aLst, aLstB, aUn, aCa, aSl, aNo, aPart, aM, aML, aRet, aRetN, aIf, aDo, aNext, aCont, aBrk, aAsg, aCall, aCallX, aMeth, aFld, aSetFld, aFldAug, aAug, aRaise, aMake, aYes, kName, kCons, kNil, kSub, nth, put, wipeD, asT_b, fAdd_i, fAdd_s, fAdd_t, fAdd_l, fSub_i, fLt_i, fLe_i, fGt_i, fGe_i, fMul_i, fMod_i, fFdiv_i, fPow_i, fNeg_i, fEq_i, fEq_s, fEq_b, fNe_i, fNe_s, fNe_b, fIn_s, fNi_s, fIx_t0, fIx_t1, fIx_t2, fIx_l0, fIx_l1, fSl_s, fSl_t, fSl_l, fLen_t, fLen_l, fInt_i, fAbs_i, fMax_i, fMin_i, fTuple_t, fTuple_l, fList_t, fList_l, fRepS_s, seqOf_t, seqOf_l, truD_b, truD_t, truD_l, kTup_t, fIsN_n, fIsi_non_int, fIsi_non_bool, fIsi_non_str, fIsi_non_tuple, fIsi_non_list, fIsi_bl_int, fIsi_bl_bool, fIsi_bl_str, fIsi_bl_tuple, fIsi_bl_list, fIsi_int_int, fIsi_int_bool, fIsi_int_str, fIsi_int_tuple, fIsi_int_list, fIsi_str_int, fIsi_str_bool, fIsi_str_str, fIsi_str_tuple, fIsi_str_list, fIsi_tup_int, fIsi_tup_bool, fIsi_tup_str, fIsi_tup_tuple, fIsi_tup_list, fIsi_lst_int, fIsi_lst_bool, fIsi_lst_str, fIsi_lst_tuple, fIsi_lst_list, isN, fIx_sy0, fIx_sy1, ite_tt, ite_ff, fldOf_b r2.ob, rdF_en, rdF_text, rdF_at, isL_b r2.en.lst, tx_len, cut_nn, true_and]
        refine ⟨by omega, by simp, fun p hp => ?_⟩
        have pe : p ≠ ea := fun z => by
          rw [z, r2.en.lst] at hp
          cases hp
        rw [fApp_b (by rw [mset_ne pe.symm]; exact r2.en.lst)]
        refine ⟨by rw [List.length_map, r2.en.len]; have := r.kl; omega, ?_⟩
        rw [mem_low, ← hb, hw2]
        have r3 := r2.push (s := ⟨w, 0⟩) (by omega) hp
        exact fzE.of (hq j w b _ e ⟨dx, ea, oa, _, r3⟩)
    · have hn : symN h t k = none := by
        unfold symN
        rw [hc]
        show (if low c then _ else if (c = 46 ∨ (h = true ∧ c = 63)) then some (k + 1, [c], false) else none) = _
        rw [if_neg (fun z => hf (.inl z)), if_neg (fun z => hf (.inr z))]
      rw [if_pos (by simp [hf])]
      simp only [aSeq, aSet, aC, aVar, aOp, aTest, aTru, aAnd, aOr, aNot, aAndV, aOrV, aNotV, aIfE, aNil, aCons, aTup, aLst, aLstB, aUn, aCa, aSl, aNo, aPart, aM, aML, aRet, aRetN, aIf, aDo, aNext, aCont, aBrk, aAsg, aCall, aCallX, aMeth, aFld, aSetFld, aFldAug, aAug, aRaise, aMake, aYes, kName, kCons, kNil, kSub, nth, put, wipeD, asT_b, fAdd_i, fAdd_s, fAdd_t, fAdd_l, fSub_i, fLt_i, fLe_i, fGt_i, fGe_i, fMul_i, fMod_i, fFdiv_i, fPow_i, fNeg_i, fEq_i, fEq_s, fEq_b, fNe_i, fNe_s, fNe_b, fIn_s, fNi_s, fIx_t0, fIx_t1, fIx_t2, fIx_l0, fIx_l1, fSl_s, fSl_t, fSl_l, fLen_t, fLen_l, fInt_i, fAbs_i, fMax_i, fMin_i, fTuple_t, fTuple_l, fList_t, fList_l, fRepS_s, seqOf_t, seqOf_l, truD_b, truD_t, truD_l, kTup_t, fIsN_n, fIsi_non_int, fIsi_non_bool, fIsi_non_str, fIsi_non_tuple, fIsi_non_list, fIsi_bl_int, fIsi_bl_bool, fIsi_bl_str, fIsi_bl_tuple, fIsi_bl_list, fIsi_int_int, fIsi_int_bool, fIsi_int_str, fIsi_int_tuple, fIsi_int_list, fIsi_str_int, fIsi_str_bool, fIsi_str_str, fIsi_str_tuple, fIsi_str_list, fIsi_tup_int, fIsi_tup_bool, fIsi_tup_str, fIsi_tup_tuple, fIsi_tup_list, fIsi_lst_int, fIsi_lst_bool, fIsi_lst_str, fIsi_lst_tuple, fIsi_lst_list, isN, fIx_sy0, fIx_sy1, ite_tt, ite_ff, r.isI (nm := "refuse") (.inr (.inl rfl))]
      exact ⟨trivial, o, dx, ea, oa, t, h, k, rfl, r.ob, hw hn⟩
/-! ### a bracket opened -/
def sp_open (C : Addr) : ASp := fun ds m P _ => ∃ (m0 : Mu) (o : Addr) (t : List Nat) (h : Bool) (k : Nat) (row : List Sy) (st : List Nat), ds = [.box o] ∧ RdE m0 m C o t h k row st ∧ row ≠ [] ∧ k < t.length ∧
  ∀ m', RdE m0 m' C o t h (k + 1) (modS oneS row (row.length - 1)) ((row.length - 1) :: st) → P .non m'
theorem rd_open {C : Addr} : ∀ ds m Q W, sp_open C ds m Q W → b_TreeReader_open_bracket C W { nx := fun _ m' => fzE K Q .non m', rt := fzE K Q } (ds.map some ++ List.replicate (N_TreeReader_open_bracket.length - ds.length) none) m := by
  rintro ds m Q W ⟨m0, o, t, h, k, row, st, rfl, ⟨dx, ea, oa, bs, r⟩, hne, hkl, hq⟩
  change b_TreeReader_open_bracket C W _ [some (.box o)] m
  unfold b_TreeReader_open_bracket
  have hpos := List.length_pos_iff.mpr hne
  obtain ⟨s, hs⟩ : ∃ s, row[row.length - 1]? = some s := ⟨_, List.getElem?_eq_getElem (by omega)⟩
  obtain ⟨b, hb, hbm, hbe, hmb⟩ := r.en.at_ hs
  have r1 := r.to (j := k + 1) (by omega) (by omega)
  have r2 := r1.upd (f := oneS) hs hb
  have r3 := r2.more (i := row.length - 1) (by rw [modS_len]; omega) hb (by have := r.sl; omega)
  have hb' : bs[bs.length - 1]? = some b := by rw [r.en.len]; exact hb
  have hmb1 := r1.en.ent _ b s hb hs
  have hk1 : ixN [D.str (tx s.w), D.int (s.n : Int)].length 1 = some 1 := rfl
  have hset : (MO.lst ([D.str (tx s.w), D.int (s.n : Int)].set 1 (.int 1))) = entO (oneS s) := rfl
  simp only [aSeq, aSet, aC, aVar, aOp, aTest, aTru, aAnd, aOr, aNot, aAndV, aOrV, aNotV, aIfE, aNil, aCons, aTup, aLst, aLstB, aUn, aCa, aSl, aNo, aPart, aM, aML, aRet, aRetN, aIf, aDo, aNext, aCont, aBrk, aAsg, aCall, aCallX, aMeth, aFld, aSetFld, aFldAug, aAug, aRaise, aMake, aYes, kName, kCons, kNil, kSub, nth, put, wipeD, asT_b, fAdd_i, fAdd_s, fAdd_t, fAdd_l, fSub_i, fLt_i, fLe_i, fGt_i, fGe_i, fMul_i, fMod_i, fFdiv_i, fPow_i, fNeg_i, fEq_i, fEq_s, fEq_b, fNe_i, fNe_s, fNe_b, fIn_s, fNi_s, fIx_t0, fIx_t1, fIx_t2, fIx_l0, fIx_l1, fSl_s, fSl_t, fSl_l, fLen_t, fLen_l, fInt_i, fAbs_i, fMax_i, fMin_i, fTuple_t, fTuple_l, fList_t, fList_l, fRepS_s, seqOf_t, seqOf_l, truD_b, truD_t, truD_l, kTup_t, fIsN_n, fIsi_non_int, fIsi_non_bool, fIsi_non_str, fIsi_non_tuple, fIsi_non_list, fIsi_bl_int, fIsi_bl_bool, fIsi_bl_str, fIsi_bl_tuple, fIsi_bl_list, fIsi_int_int, fIsi_int_bool, fIsi_int_str, fIsi_int_tuple, fIsi_int_list, fIsi_str_int, fIsi_str_bool, fIsi_str_str, fIsi_str_tuple, fIsi_str_list, fIsi_tup_int, fIsi_tup_bool, fIsi_tup_str, fIsi_tup_tuple, fIsi_tup_list, fIsi_lst_int, fIsi_lst_bool, fIsi_lst_str, fIsi_lst_tuple, fIsi_lst_list, isN, fIx_sy0, fIx_sy1, ite_tt, ite_ff, fldOf_b r.ob, rdF_at, setFld_b r.ob, rdF_put]
  refine ⟨rdF_len, ?_⟩
  simp only [aSeq, aSet, aC, aVar, aOp, aTest, aTru, aAnd, aOr, aNot, aAndV, aOrV, aNotV, aIfE, aNil, aCons, aTup, aLst, aLstB, aUn, aCa, aSl, aNo, aPart, aM, aML, aRet, aRetN, aIf, aDo, aNext, aCont, aBrk, aAsg, aCall, aCallX, aMeth, aFld, aSetFld, aFldAug, aAug, aRaise, aMake, aYes, kName, kCons, kNil, kSub, nth, put, wipeD, asT_b, fAdd_i, fAdd_s, fAdd_t, fAdd_l, fSub_i, fLt_i, fLe_i, fGt_i, fGe_i, fMul_i, fMod_i, fFdiv_i, fPow_i, fNeg_i, fEq_i, fEq_s, fEq_b, fNe_i, fNe_s, fNe_b, fIn_s, fNi_s, fIx_t0, fIx_t1, fIx_t2, fIx_l0, fIx_l1, fSl_s, fSl_t, fSl_l, fLen_t, fLen_l, fInt_i, fAbs_i, fMax_i, fMin_i, fTuple_t, fTuple_l, fList_t, fList_l, fRepS_s, seqOf_t, seqOf_l, truD_b, truD_t, truD_l, kTup_t, fIsN_n, fIsi_non_int, fIsi_non_bool, fIsi_non_str, fIsi_non_tuple, fIsi_non_list, fIsi_bl_int, fIsi_bl_bool, fIsi_bl_str, fIsi_bl_tuple, fIsi_bl_list, fIsi_int_int, fIsi_int_bool, fIsi_int_str, fIsi_int_tuple, fIsi_int_list, fIsi_str_int, fIsi_str_bool, fIsi_str_str, fIsi_str_tuple, fIsi_str_list, fIsi_tup_int, fIsi_tup_bool, fIsi_tup_str, fIsi_tup_tuple, fIsi_tup_list, fIsi_lst_int, fIsi_lst_bool, fIsi_lst_str, fIsi_lst_tuple, fIsi_lst_list, isN, fIx_sy0, fIx_sy1, ite_tt, ite_ff, fldOf_b r1.ob, rdF_en, fIx_b r1.en.lst (at_lastB hb'), fSetIx_b hmb1 hk1, hset, fldOf_b r2.ob, rdF_op, isL_b r2.op, fIx_b r2.en.lst (at_lastB hb'), fApp_b r2.op, true_and]
  refine ⟨by rw [List.length_map, List.length_reverse]; have := r.sl; have := r.kl; have := r.tl; omega, fzE.of (hq _ ⟨dx, ea, oa, bs, r3⟩)⟩
end AL
set_option maxHeartbeats 4000000
namespace AL
open PySem L2 Evl
variable {K : PySem.W.Frag}
/-! ### ends read -/
def stuck (t : List Nat) (k ph : Nat) (row : List Sy) : Prop := ∀ c, t[k]? = some c → ph = 1 → ¬(wsg c ∧ wl row (row.length - 1) < 16) ∧ c ≠ 40
def rda (h : Bool) (t : List Nat) (k ph : Nat) (row : List Sy) (st : List Nat) : Rs := rdm h (t.drop k) ph row st k
section
variable {h : Bool} {t : List Nat} {k ph ph' c i : Nat} {row row' : List Sy} {st st' : List Nat}
theorem rda_end (hc : t[k]? = none) (hs : st ≠ []) : rda h t k ph row st = .err k := by
  unfold rda
  rw [List.drop_eq_nil_of_le (List.getElem?_eq_none_iff.mp hc)]
  show (if ph = 0 ∨ st ≠ [] then Rs.err k else .ok row) = _
  rw [if_pos (.inr hs)]
theorem rda_go (hc : t[k]? = some c) (e : nxt h c ph row st = some (ph', row', st')) : rda h t k ph row st = rda h t (k + 1) ph' row' st' := by
  unfold rda
  rw [drop_get hc, rdm_some e]
theorem rda_no (hc : t[k]? = some c) (e : nxt h c ph row st = none) : rda h t k ph row st = .err k := by
  unfold rda
  rw [drop_get hc, rdm_none e]
end
def sp_ends (C CI : Addr) : ASp := fun ds m P W => ∃ (m0 : Mu) (o : Addr) (t : List Nat) (h : Bool) (k ph : Nat) (row : List Sy) (st : List Nat), ds = [.box o] ∧ RdE m0 m C o t h k row st ∧ ph ≠ 0 ∧ stuck t k ph row ∧
  (∀ m' k' row' st', RdE m0 m' C o t h k' row' st' → k < k' → row'.length = row.length → rda h t k' 0 row' st' = rda h t k ph row st → P (.bl true) m') ∧
  (∀ m' k' ph', RdE m0 m' C o t h k' row [] → k ≤ k' → ph' ≠ 0 → stuck t k' ph' row → rda h t k' ph' row [] = rda h t k ph row st → P (.bl false) m') ∧
  ∀ m' j, Sub m0 m' → rda h t k ph row st = .err j → W CI (erD j) m'
theorem rd_ends {C CI : Addr} : ∀ ds m Q W, sp_ends C CI ds m Q W → b_TreeReader_read_ends C (.int 4) (sp_refuse C CI) (sp_sign C) W { nx := fun _ m' => fzE K Q .non m', rt := fzE K Q } (ds.map some ++ List.replicate (N_TreeReader_read_ends.length - ds.length) none) m := by
  rintro ds m Q W ⟨m0, o, t, h, k, ph, row, st, rfl, r, hp, hst, hq1, hq2, hw⟩
  change b_TreeReader_read_ends C _ _ _ W _ [some (.box o), none] m
  unfold b_TreeReader_read_ends
  simp only [aSeq, aSet, aC, aVar, aOp, aTest, aTru, aAnd, aOr, aNot, aAndV, aOrV, aNotV, aIfE, aNil, aCons, aTup, aLst, aLstB, aUn, aCa, aSl, aNo, aPart, aM, aML, aRet, aRetN, aIf, aDo, aNext, aCont, aBrk, aAsg, aCall, aCallX, aMeth, aFld, aSetFld, aFldAug, aAug, aRaise, aMake, aYes, kName, kCons, kNil, kSub, nth, put, wipeD, asT_b, fAdd_i, fAdd_s, fAdd_t, fAdd_l, fSub_i, fLt_i, fLe_i, fGt_i, fGe_i, fMul_i, fMod_i, fFdiv_i, fPow_i, fNeg_i, fEq_i, fEq_s, fEq_b, fNe_i, fNe_s, fNe_b, fIn_s, fNi_s, fIx_t0, fIx_t1, fIx_t2, fIx_l0, fIx_l1, fSl_s, fSl_t, fSl_l, fLen_t, fLen_l, fInt_i, fAbs_i, fMax_i, fMin_i, fTuple_t, fTuple_l, fList_t, fList_l, fRepS_s, seqOf_t, seqOf_l, truD_b, truD_t, truD_l, kTup_t, fIsN_n, fIsi_non_int, fIsi_non_bool, fIsi_non_str, fIsi_non_tuple, fIsi_non_list, fIsi_bl_int, fIsi_bl_bool, fIsi_bl_str, fIsi_bl_tuple, fIsi_bl_list, fIsi_int_int, fIsi_int_bool, fIsi_int_str, fIsi_int_tuple, fIsi_int_list, fIsi_str_int, fIsi_str_bool, fIsi_str_str, fIsi_str_tuple, fIsi_str_list, fIsi_tup_int, fIsi_tup_bool, fIsi_tup_str, fIsi_tup_tuple, fIsi_tup_list, fIsi_lst_int, fIsi_lst_bool, fIsi_lst_str, fIsi_lst_tuple, fIsi_lst_list, isN, fIx_sy0, fIx_sy1, ite_tt, ite_ff]
  refine ⟨fun n g m' => ∃ (k' ph' : Nat) (st' : List Nat) (x : Option D), g = [some (.box o), x] ∧ RdE m0 m' C o t h k' row st' ∧ k ≤ k' ∧ ph' ≠ 0 ∧ stuck t k' ph' row ∧ rda h t k' ph' row st' = rda h t k ph row st ∧ n = st'.length, ⟨_, k, ph, st, none, rfl, r, Nat.le_refl _, hp, hst, rfl, rfl⟩, ?_⟩
  rintro n g m' ⟨k', ph', st', x, rfl, ⟨dx, ea, oa, bs, r'⟩, hk, hp', hst', he, rfl⟩
  simp only [aSeq, aSet, aC, aVar, aOp, aTest, aTru, aAnd, aOr, aNot, aAndV, aOrV, aNotV, aIfE, aNil, aCons, aTup, aLst, aLstB, aUn, aCa, aSl, aNo, aPart, aM, aML, aRet, aRetN, aIf, aDo, aNext, aCont, aBrk, aAsg, aCall, aCallX, aMeth, aFld, aSetFld, aFldAug, aAug, aRaise, aMake, aYes, kName, kCons, kNil, kSub, nth, put, wipeD, asT_b, fAdd_i, fAdd_s, fAdd_t, fAdd_l, fSub_i, fLt_i, fLe_i, fGt_i, fGe_i, fMul_i, fMod_i, fFdiv_i, fPow_i, fNeg_i, fEq_i, fEq_s, fEq_b, fNe_i, fNe_s, fNe_b, fIn_s, fNi_s, fIx_t0, fIx_t1, fIx_t2, fIx_l0, fIx_l1, fSl_s, fSl_t, fSl_l, fLen_t, fLen_l, fInt_i, fAbs_i, fMax_i, fMin_i, fTuple_t, fTuple_l, fList_t, fList_l, fRepS_s, seqOf_t, seqOf_l, truD_b, truD_t, truD_l, kTup_t, fIsN_n, fIsi_non_int, fIsi_non_bool, fIsi_non_str, fIsi_non_tuple, fIsi_non_list, fIsi_bl_int, fIsi_bl_bool, fIsi_bl_str, fIsi_bl_tuple, fIsi_bl_list, fIsi_int_int, fIsi_int_bool, fIsi_int_str, fIsi_int_tuple, fIsi_int_list, fIsi_str_int, fIsi_str_bool, fIsi_str_str, fIsi_str_tuple, fIsi_str_list, fIsi_tup_int, fIsi_tup_bool, fIsi_tup_str, fIsi_tup_tuple, fIsi_tup_list, fIsi_lst_int, fIsi_lst_bool, fIsi_lst_str, fIsi_lst_tuple, fIsi_lst_list, isN, fIx_sy0, fIx_sy1, ite_tt, ite_ff, fldOf_b r'.ob, rdF_op, truD_x r'.op]
  cases st' with
  | nil =>
    rw [if_neg (by simp)]
    exact fzE.of (hq2 m' k' ph' ⟨dx, ea, oa, bs, r'⟩ hk hp' hst' he)
  | cons i st0 =>
    rw [if_pos (by simp)]
    have tl := r'.tl
    have refuse : ∀ x : Option D, rda h t k' ph' row (i :: st0) = .err k' → isI C "refuse" m' (.box o) ∧ sp_refuse C CI [.box o] m' (fun _ m1 => aSeq (aFldAug C "at" (aVar 0) (aC (.int 1))) (aDo (aML fPop (aFld C "open_entries" (aVar 0)) aNil)) { nx := fun g2 m2 => ∃ n', n' < (i :: st0).length ∧ ∃ (k' ph' : Nat) (st' : List Nat) (x : Option D), g2 = [some (.box o), x] ∧ RdE m0 m2 C o t h k' row st' ∧ k ≤ k' ∧ ph' ≠ 0 ∧ stuck t k' ph' row ∧ rda h t k' ph' row st' = rda h t k ph row st ∧ n' = st'.length, rt := fzE K Q, bk := fun x m' => fzE K Q (.bl false) m', ct := fun g2 m2 => ∃ n', n' < (i :: st0).length ∧ ∃ (k' ph' : Nat) (st' : List Nat) (x : Option D), g2 = [some (.box o), x] ∧ RdE m0 m2 C o t h k' row st' ∧ k ≤ k' ∧ ph' ≠ 0 ∧ stuck t k' ph' row ∧ rda h t k' ph' row st' = rda h t k ph row st ∧ n' = st'.length } [some (.box o), x] m1) W := fun x hx => by
      rw [r'.isI (nm := "refuse") (.inr (.inl rfl))]
      refine ⟨trivial, o, dx, ea, oa, t, h, k', rfl, r'.ob, ?_⟩
      exact hw m' k' r'.sub (he ▸ hx)
    refine ⟨by rw [r'.isI (nm := "sign") (.inl rfl)]; trivial, o, dx, ea, oa, t, h, k', rfl, r'.ob, tl, ?_⟩
    refine cut_plain ?_
    have hi := r'.lt i List.mem_cons_self
    obtain ⟨s, hs⟩ : ∃ s, row[i]? = some s := ⟨_, List.getElem?_eq_getElem hi⟩
    obtain ⟨b, hb, hbm, hbe, hmb⟩ := r'.en.at_ hs
    have hrev : ((i :: st0).reverse.map fun i => D.box (bs.getD i 0)) = (st0.reverse.map fun i => D.box (bs.getD i 0)) ++ [.box b] := by
      rw [List.reverse_cons, List.map_append, List.map_singleton, getD_of hb]
    have hlast : atI ((i :: st0).reverse.map fun i => D.box (bs.getD i 0)) (-1) = some (.box b) := by
      rw [hrev]
      exact atI_last
    cases hc : t[k']? with
    | none =>
      have e1 : decide (Str.ofString "" = Str.ofString ",") = false := by decide
      have e2 : decide (Str.ofString "" = Str.ofString ")") = false := by decide
      simp only [aSeq, aSet, aC, aVar, aOp, aTest, aTru, aAnd, aOr, aNot, aAndV, aOrV, aNotV, aIfE, aNil, aCons, aTup, aLst, aLstB, aUn, aCa, aSl, aNo, aPart, aM, aML, aRet, aRetN, aIf, aDo, aNext, aCont, aBrk, aAsg, aCall, aCallX, aMeth, aFld, aSetFld, aFldAug, aAug, aRaise, aMake, aYes, kName, kCons, kNil, kSub, nth, put, wipeD, asT_b, fAdd_i, fAdd_s, fAdd_t, fAdd_l, fSub_i, fLt_i, fLe_i, fGt_i, fGe_i, fMul_i, fMod_i, fFdiv_i, fPow_i, fNeg_i, fEq_i, fEq_s, fEq_b, fNe_i, fNe_s, fNe_b, fIn_s, fNi_s, fIx_t0, fIx_t1, fIx_t2, fIx_l0, fIx_l1, fSl_s, fSl_t, fSl_l, fLen_t, fLen_l, fInt_i, fAbs_i, fMax_i, fMin_i, fTuple_t, fTuple_l, fList_t, fList_l, fRepS_s, seqOf_t, seqOf_l, truD_b, truD_t, truD_l, kTup_t, fIsN_n, fIsi_non_int, fIsi_non_bool, fIsi_non_str, fIsi_non_tuple, fIsi_non_list, fIsi_bl_int, fIsi_bl_bool, fIsi_bl_str, fIsi_bl_tuple, fIsi_bl_list, fIsi_int_int, fIsi_int_bool, fIsi_int_str, fIsi_int_tuple, fIsi_int_list, fIsi_str_int, fIsi_str_bool, fIsi_str_str, fIsi_str_tuple, fIsi_str_list, fIsi_tup_int, fIsi_tup_bool, fIsi_tup_str, fIsi_tup_tuple, fIsi_tup_list, fIsi_lst_int, fIsi_lst_bool, fIsi_lst_str, fIsi_lst_tuple, fIsi_lst_list, isN, fIx_sy0, fIx_sy1, ite_tt, ite_ff, sg_none hc, e1, Bool.false_eq_true, reduceIte]
      refine cut_plain ?_
      simp only [aSeq, aSet, aC, aVar, aOp, aTest, aTru, aAnd, aOr, aNot, aAndV, aOrV, aNotV, aIfE, aNil, aCons, aTup, aLst, aLstB, aUn, aCa, aSl, aNo, aPart, aM, aML, aRet, aRetN, aIf, aDo, aNext, aCont, aBrk, aAsg, aCall, aCallX, aMeth, aFld, aSetFld, aFldAug, aAug, aRaise, aMake, aYes, kName, kCons, kNil, kSub, nth, put, wipeD, asT_b, fAdd_i, fAdd_s, fAdd_t, fAdd_l, fSub_i, fLt_i, fLe_i, fGt_i, fGe_i, fMul_i, fMod_i, fFdiv_i, fPow_i, fNeg_i, fEq_i, fEq_s, fEq_b, fNe_i, fNe_s, fNe_b, fIn_s, fNi_s, fIx_t0, fIx_t1, fIx_t2, fIx_l0, fIx_l1, fSl_s, fSl_t, fSl_l, fLen_t, fLen_l, fInt_i, fAbs_i, fMax_i, fMin_i, fTuple_t, fTuple_l, fList_t, fList_l, fRepS_s, seqOf_t, seqOf_l, truD_b, truD_t, truD_l, kTup_t, fIsN_n, fIsi_non_int, fIsi_non_bool, fIsi_non_str, fIsi_non_tuple, fIsi_non_list, fIsi_bl_int, fIsi_bl_bool, fIsi_bl_str, fIsi_bl_tuple, fIsi_bl_list, fIsi_int_int, fIsi_int_bool, fIsi_int_str, fIsi_int_tuple, fIsi_int_list, fIsi_str_int, fIsi_str_bool, fIsi_str_str, fIsi_str_tuple, fIsi_str_list, fIsi_tup_int, fIsi_tup_bool, fIsi_tup_str, fIsi_tup_tuple, fIsi_tup_list, fIsi_lst_int, fIsi_lst_bool, fIsi_lst_str, fIsi_lst_tuple, fIsi_lst_list, isN, fIx_sy0, fIx_sy1, ite_tt, ite_ff, e2, Bool.not_false, reduceIte]
      exact refuse _ (rda_end hc (by simp))
    | some c =>
      simp only [aSeq, aSet, aC, aVar, aOp, aTest, aTru, aAnd, aOr, aNot, aAndV, aOrV, aNotV, aIfE, aNil, aCons, aTup, aLst, aLstB, aUn, aCa, aSl, aNo, aPart, aM, aML, aRet, aRetN, aIf, aDo, aNext, aCont, aBrk, aAsg, aCall, aCallX, aMeth, aFld, aSetFld, aFldAug, aAug, aRaise, aMake, aYes, kName, kCons, kNil, kSub, nth, put, wipeD, asT_b, fAdd_i, fAdd_s, fAdd_t, fAdd_l, fSub_i, fLt_i, fLe_i, fGt_i, fGe_i, fMul_i, fMod_i, fFdiv_i, fPow_i, fNeg_i, fEq_i, fEq_s, fEq_b, fNe_i, fNe_s, fNe_b, fIn_s, fNi_s, fIx_t0, fIx_t1, fIx_t2, fIx_l0, fIx_l1, fSl_s, fSl_t, fSl_l, fLen_t, fLen_l, fInt_i, fAbs_i, fMax_i, fMin_i, fTuple_t, fTuple_l, fList_t, fList_l, fRepS_s, seqOf_t, seqOf_l, truD_b, truD_t, truD_l, kTup_t, fIsN_n, fIsi_non_int, fIsi_non_bool, fIsi_non_str, fIsi_non_tuple, fIsi_non_list, fIsi_bl_int, fIsi_bl_bool, fIsi_bl_str, fIsi_bl_tuple, fIsi_bl_list, fIsi_int_int, fIsi_int_bool, fIsi_int_str, fIsi_int_tuple, fIsi_int_list, fIsi_str_int, fIsi_str_bool, fIsi_str_str, fIsi_str_tuple, fIsi_str_list, fIsi_tup_int, fIsi_tup_bool, fIsi_tup_str, fIsi_tup_tuple, fIsi_tup_list, fIsi_lst_int, fIsi_lst_bool, fIsi_lst_str, fIsi_lst_tuple, fIsi_lst_list, isN, fIx_sy0, fIx_sy1, ite_tt, ite_ff, sg_some hc, dq_com, fldOf_b r'.ob, rdF_op, rdF_at, fIx_b r'.op hlast, fIx_ent1 hmb]
      have hkt := (List.getElem?_eq_some_iff.mp hc).1
      have other : (c = 44 → ¬s.n < 4) → aCut (aIf (aTest (aOp fNe (aVar 1) (aC (.str ")")))) (aDo (aMeth C "refuse" W (sp_refuse C CI) (aVar 0) aNil)) aNext) (aSeq (aFldAug C "at" (aVar 0) (aC (.int 1))) (aDo (aML fPop (aFld C "open_entries" (aVar 0)) aNil))) { nx := fun g2 m2 => ∃ n', n' < (i :: st0).length ∧ ∃ (k' ph' : Nat) (st' : List Nat) (x : Option D), g2 = [some (.box o), x] ∧ RdE m0 m2 C o t h k' row st' ∧ k ≤ k' ∧ ph' ≠ 0 ∧ stuck t k' ph' row ∧ rda h t k' ph' row st' = rda h t k ph row st ∧ n' = st'.length, rt := fzE K Q, bk := fun x m' => fzE K Q (.bl false) m', ct := fun g2 m2 => ∃ n', n' < (i :: st0).length ∧ ∃ (k' ph' : Nat) (st' : List Nat) (x : Option D), g2 = [some (.box o), x] ∧ RdE m0 m2 C o t h k' row st' ∧ k ≤ k' ∧ ph' ≠ 0 ∧ stuck t k' ph' row ∧ rda h t k' ph' row st' = rda h t k ph row st ∧ n' = st'.length } [some (.box o), some (.str ⟨#[c]⟩)] m' := fun h1 => by
        refine cut_plain ?_
        simp only [aSeq, aSet, aC, aVar, aOp, aTest, aTru, aAnd, aOr, aNot, aAndV, aOrV, aNotV, aIfE, aNil, aCons, aTup, aLst, aLstB, aUn, aCa, aSl, aNo, aPart, aM, aML, aRet, aRetN, aIf, aDo, aNext, aCont, aBrk, aAsg, aCall, aCallX, aMeth, aFld, aSetFld, aFldAug, aAug, aRaise, aMake, aYes, kName, kCons, kNil, kSub, nth, put, wipeD, asT_b, fAdd_i, fAdd_s, fAdd_t, fAdd_l, fSub_i, fLt_i, fLe_i, fGt_i, fGe_i, fMul_i, fMod_i, fFdiv_i, fPow_i, fNeg_i, fEq_i, fEq_s, fEq_b, fNe_i, fNe_s, fNe_b, fIn_s, fNi_s, fIx_t0, fIx_t1, fIx_t2, fIx_l0, fIx_l1, fSl_s, fSl_t, fSl_l, fLen_t, fLen_l, fInt_i, fAbs_i, fMax_i, fMin_i, fTuple_t, fTuple_l, fList_t, fList_l, fRepS_s, seqOf_t, seqOf_l, truD_b, truD_t, truD_l, kTup_t, fIsN_n, fIsi_non_int, fIsi_non_bool, fIsi_non_str, fIsi_non_tuple, fIsi_non_list, fIsi_bl_int, fIsi_bl_bool, fIsi_bl_str, fIsi_bl_tuple, fIsi_bl_list, fIsi_int_int, fIsi_int_bool, fIsi_int_str, fIsi_int_tuple, fIsi_int_list, fIsi_str_int, fIsi_str_bool, fIsi_str_str, fIsi_str_tuple, fIsi_str_list, fIsi_tup_int, fIsi_tup_bool, fIsi_tup_str, fIsi_tup_tuple, fIsi_tup_list, fIsi_lst_int, fIsi_lst_bool, fIsi_lst_str, fIsi_lst_tuple, fIsi_lst_list, isN, fIx_sy0, fIx_sy1, ite_tt, ite_ff, dq_cls]
        by_cases h41 : c = 41
        · rw [if_neg (by simp [h41])]
          subst h41
          have r1 := r'.to (j := k' + 1) (by omega) (by omega)
          simp only [aSeq, aSet, aC, aVar, aOp, aTest, aTru, aAnd, aOr, aNot, aAndV, aOrV, aNotV, aIfE, aNil, aCons, aTup, aLst, aLstB, aUn, aCa, aSl, aNo, aPart, aM, aML, aRet, aRetN, aIf, aDo, aNext, aCont, aBrk, aAsg, aCall, aCallX, aMeth, aFld, aSetFld, aFldAug, aAug, aRaise, aMake, aYes, kName, kCons, kNil, kSub, nth, put, wipeD, asT_b, fAdd_i, fAdd_s, fAdd_t, fAdd_l, fSub_i, fLt_i, fLe_i, fGt_i, fGe_i, fMul_i, fMod_i, fFdiv_i, fPow_i, fNeg_i, fEq_i, fEq_s, fEq_b, fNe_i, fNe_s, fNe_b, fIn_s, fNi_s, fIx_t0, fIx_t1, fIx_t2, fIx_l0, fIx_l1, fSl_s, fSl_t, fSl_l, fLen_t, fLen_l, fInt_i, fAbs_i, fMax_i, fMin_i, fTuple_t, fTuple_l, fList_t, fList_l, fRepS_s, seqOf_t, seqOf_l, truD_b, truD_t, truD_l, kTup_t, fIsN_n, fIsi_non_int, fIsi_non_bool, fIsi_non_str, fIsi_non_tuple, fIsi_non_list, fIsi_bl_int, fIsi_bl_bool, fIsi_bl_str, fIsi_bl_tuple, fIsi_bl_list, fIsi_int_int, fIsi_int_bool, fIsi_int_str, fIsi_int_tuple, fIsi_int_list, fIsi_str_int, fIsi_str_bool, fIsi_str_str, fIsi_str_tuple, fIsi_str_list, fIsi_tup_int, fIsi_tup_bool, fIsi_tup_str, fIsi_tup_tuple, fIsi_tup_list, fIsi_lst_int, fIsi_lst_bool, fIsi_lst_str, fIsi_lst_tuple, fIsi_lst_list, isN, fIx_sy0, fIx_sy1, ite_tt, ite_ff, fldOf_b r'.ob, rdF_at, setFld_b r'.ob, rdF_put]
          refine ⟨rdF_len, ?_⟩
          simp only [aSeq, aSet, aC, aVar, aOp, aTest, aTru, aAnd, aOr, aNot, aAndV, aOrV, aNotV, aIfE, aNil, aCons, aTup, aLst, aLstB, aUn, aCa, aSl, aNo, aPart, aM, aML, aRet, aRetN, aIf, aDo, aNext, aCont, aBrk, aAsg, aCall, aCallX, aMeth, aFld, aSetFld, aFldAug, aAug, aRaise, aMake, aYes, kName, kCons, kNil, kSub, nth, put, wipeD, asT_b, fAdd_i, fAdd_s, fAdd_t, fAdd_l, fSub_i, fLt_i, fLe_i, fGt_i, fGe_i, fMul_i, fMod_i, fFdiv_i, fPow_i, fNeg_i, fEq_i, fEq_s, fEq_b, fNe_i, fNe_s, fNe_b, fIn_s, fNi_s, fIx_t0, fIx_t1, fIx_t2, fIx_l0, fIx_l1, fSl_s, fSl_t, fSl_l, fLen_t, fLen_l, fInt_i, fAbs_i, fMax_i, fMin_i, fTuple_t, fTuple_l, fList_t, fList_l, fRepS_s, seqOf_t, seqOf_l, truD_b, truD_t, truD_l, kTup_t, fIsN_n, fIsi_non_int, fIsi_non_bool, fIsi_non_str, fIsi_non_tuple, fIsi_non_list, fIsi_bl_int, fIsi_bl_bool, fIsi_bl_str, fIsi_bl_tuple, fIsi_bl_list, fIsi_int_int, fIsi_int_bool, fIsi_int_str, fIsi_int_tuple, fIsi_int_list, fIsi_str_int, fIsi_str_bool, fIsi_str_str, fIsi_str_tuple, fIsi_str_list, fIsi_tup_int, fIsi_tup_bool, fIsi_tup_str, fIsi_tup_tuple, fIsi_tup_list, fIsi_lst_int, fIsi_lst_bool, fIsi_lst_str, fIsi_lst_tuple, fIsi_lst_list, isN, fIx_sy0, fIx_sy1, ite_tt, ite_ff, fldOf_b r1.ob, rdF_op, isL_b r1.op, fPop_b r1.op hrev, true_and]
          refine ⟨st0.length, by simp, k' + 1, 2, st0, _, rfl, ⟨dx, ea, oa, bs, r1.less⟩, by omega, by decide, (fun _ _ z => by cases z), ?_, rfl⟩
          rw [← he, rda_go hc (nxt_cls hp')]
        · rw [if_pos (by simp [h41])]
          exact refuse _ (rda_no hc (nxt_no hp' (hst' c hc) (fun z => h1 z.1 (by rw [← cnt_of hs]; exact z.2)) h41))
      by_cases h44 : c = 44
      · by_cases hn : s.n < 4
        · rw [if_pos (decide_eq_true h44), if_pos (decide_eq_true (by omega))]
          subst h44
          have r1 := r'.to (j := k' + 1) (by omega) (by omega)
          have hmb1 := r1.en.ent _ b s hb hs
          have hk1 : ixN [D.str (tx s.w), D.int (s.n : Int)].length 1 = some 1 := rfl
          have ha1 : atI [D.str (tx s.w), D.int (s.n : Int)] 1 = some (.int (s.n : Int)) := rfl
          have hset : (MO.lst ([D.str (tx s.w), D.int (s.n : Int)].set 1 (.int ((s.n : Int) + 1)))) = entO (incS s) := rfl
          rw [setFld_b r'.ob, rdF_put]
          refine ⟨rdF_len, ?_⟩
          have hmb2 : mset m' o (.ins C dx (rdF t h (k' + 1) ea oa)) b = some (.lst [D.str (tx s.w), D.int (s.n : Int)]) := hmb1
          simp only [aAugIx, aOp, aFld, aVar, aUn, aC, nth, fNeg_i, fldOf_b r1.ob, rdF_op, fIx_b r1.op hlast, hmb2, ha1, fSetIx_b hmb2 hk1, hset]
          refine fzE.of (hq1 _ (k' + 1) _ (i :: st0) ⟨dx, ea, oa, bs, r1.upd (f := incS) hs hb⟩ (by omega) modS_len ?_)
          rw [← he, rda_go hc (nxt_com hp' (by rw [cnt_of hs]; exact hn))]
        · rw [if_pos (decide_eq_true h44), if_neg (by simp; omega)]
          exact other fun _ => hn
      · rw [if_neg (by simp [h44])]
        exact other fun z => absurd z h44
end AL
set_option maxHeartbeats 4000000
namespace AL
open PySem L2 Evl
variable {K : PySem.W.Frag}
section
variable {h b : Bool} {t w : List Nat} {k k' c : Nat} {row : List Sy} {st : List Nat}
theorem sym_none (e : symN h t k = none) : rda h t k 0 row st = .err k := by
  unfold symN at e
  cases hc : t[k]? with
  | none =>
    unfold rda
    rw [List.drop_eq_nil_of_le (List.getElem?_eq_none_iff.mp hc)]
    rfl
  | some c =>
    rw [hc] at e
    have e : (if low c then some (k + 1 + restN (t.drop (k + 1)) 15, c :: (t.drop (k + 1)).take (restN (t.drop (k + 1)) 15), true) else if (c = 46 ∨ (h = true ∧ c = 63)) then some (k + 1, [c], false) else none) = none := e
    by_cases h1 : low c
    · rw [if_pos h1] at e
      cases e
    · rw [if_neg h1] at e
      by_cases h2 : c = 46 ∨ (h = true ∧ c = 63)
      · rw [if_pos h2] at e
        cases e
      · exact rda_no hc (nxt0n h1 h2)
theorem sym_some (e : symN h t k = some (k', w, b)) : rda h t k 0 row st = rda h t k' (if b = true then 1 else 2) (row ++ [⟨w, 0⟩]) st ∧ k < k' ∧ (b = true → ∀ c, t[k']? = some c → ¬(wsg c ∧ w.length < 16)) := by
  unfold symN at e
  cases hc : t[k]? with
  | none =>
    rw [hc] at e
    cases e
  | some c =>
    rw [hc] at e
    have e : (if low c then some (k + 1 + restN (t.drop (k + 1)) 15, c :: (t.drop (k + 1)).take (restN (t.drop (k + 1)) 15), true) else if (c = 46 ∨ (h = true ∧ c = 63)) then some (k + 1, [c], false) else none) = some (k', w, b) := e
    by_cases h1 : low c
    · rw [if_pos h1] at e
      cases e
      obtain ⟨l1, l2⟩ := restN_le (t.drop (k + 1)) 15
      refine ⟨?_, by omega, fun _ c' hc' z => ?_⟩
      · rw [rda_go hc (nxt0a h1), if_pos rfl]
        unfold rda
        have := rdm_word (h := h) (row := row) (st := st) (n := 0) (t := (t.drop (k + 1)).drop (restN (t.drop (k + 1)) 15)) ((t.drop (k + 1)).take (restN (t.drop (k + 1)) 15)) [c] (k + 1) (restN_all _ _) (by rw [List.length_take, List.length_singleton]; omega)
        rw [List.take_append_drop] at this
        rw [this, List.drop_drop, List.length_take, Nat.min_eq_left l1]
        rfl
      · refine restN_end (t.drop (k + 1)) 15 c' ?_ ⟨z.1, ?_⟩
        · rw [List.getElem?_drop]
          exact hc'
        · have := z.2
          rw [List.length_cons, List.length_take, Nat.min_eq_left l1] at this
          omega
    · rw [if_neg h1] at e
      by_cases h2 : c = 46 ∨ (h = true ∧ c = 63)
      · rw [if_pos h2] at e
        cases e
        exact ⟨rda_go hc (nxt0b h1 h2), by omega, fun z => by cases z⟩
      · rw [if_neg h2] at e
        cases e
end
def mea (b : Bool) (t : List Nat) (k : Nat) : Nat := if b = true then t.length + 1 - k else 0
theorem mea_t {t : List Nat} {k : Nat} : mea true t k = t.length + 1 - k := if_pos rfl
theorem mea_f {t : List Nat} {k : Nat} : mea false t k = 0 := if_neg (by decide)
def sp_all (C CI : Addr) : ASp := fun ds m P W => ∃ (m0 : Mu) (o : Addr) (t : List Nat) (h : Bool), ds = [.box o] ∧ RdE m0 m C o t h 0 [] [] ∧
  (∀ F m', Sub m0 m' → rdm h t 0 [] [] 0 = .ok F → P (rowD F) m') ∧ ∀ m' j, Sub m0 m' → rdm h t 0 [] [] 0 = .err j → W CI (erD j) m'
theorem rd_all {C CI : Addr} : ∀ ds m Q W, sp_all C CI ds m Q W → b_TreeReader_read_all C (sp_open C) (sp_ends C CI) (sp_symbol C CI) (sp_refuse C CI) (sp_sign C) W { nx := fun _ m' => fzE K Q .non m', rt := fzE K Q } (ds.map some ++ List.replicate (N_TreeReader_read_all.length - ds.length) none) m := by
  rintro ds m Q W ⟨m0, o, t, h, rfl, r, hq, hw⟩
  change b_TreeReader_read_all C _ _ _ _ _ W _ [some (.box o), none, none, none, none] m
  unfold b_TreeReader_read_all
  have hR : rda h t 0 0 [] [] = rdm h t 0 [] [] 0 := rfl
  rw [← hR] at hq hw
  simp only [aSeq, aSet, aC, aVar, aOp, aTest, aTru, aAnd, aOr, aNot, aAndV, aOrV, aNotV, aIfE, aNil, aCons, aTup, aLst, aLstB, aUn, aCa, aSl, aNo, aPart, aM, aML, aRet, aRetN, aIf, aDo, aNext, aCont, aBrk, aAsg, aCall, aCallX, aMeth, aFld, aSetFld, aFldAug, aAug, aRaise, aMake, aYes, kName, kCons, kNil, kSub, nth, put, wipeD, asT_b, fAdd_i, fAdd_s, fAdd_t, fAdd_l, fSub_i, fLt_i, fLe_i, fGt_i, fGe_i, fMul_i, fMod_i, fFdiv_i, fPow_i, fNeg_i, fEq_i, fEq_s, fEq_b, fNe_i, fNe_s, fNe_b, fIn_s, fNi_s, fIx_t0, fIx_t1, fIx_t2, fIx_l0, fIx_l1, fSl_s, fSl_t, fSl_l, fLen_t, fLen_l, fInt_i, fAbs_i, fMax_i, fMin_i, fTuple_t, fTuple_l, fList_t, fList_l, fRepS_s, seqOf_t, seqOf_l, truD_b, truD_t, truD_l, kTup_t, fIsN_n, fIsi_non_int, fIsi_non_bool, fIsi_non_str, fIsi_non_tuple, fIsi_non_list, fIsi_bl_int, fIsi_bl_bool, fIsi_bl_str, fIsi_bl_tuple, fIsi_bl_list, fIsi_int_int, fIsi_int_bool, fIsi_int_str, fIsi_int_tuple, fIsi_int_list, fIsi_str_int, fIsi_str_bool, fIsi_str_str, fIsi_str_tuple, fIsi_str_list, fIsi_tup_int, fIsi_tup_bool, fIsi_tup_str, fIsi_tup_tuple, fIsi_tup_list, fIsi_lst_int, fIsi_lst_bool, fIsi_lst_str, fIsi_lst_tuple, fIsi_lst_list, isN, fIx_sy0, fIx_sy1, ite_tt, ite_ff]
  refine ⟨fun n g m' => ∃ (k : Nat) (row : List Sy) (st : List Nat) (b : Bool) (x : Option D), g = [some (.box o), some (.bl b), x, none, none] ∧ RdE m0 m' C o t h k row st ∧ (b = true → rda h t k 0 row st = rda h t 0 0 [] []) ∧ (b = false → st = [] ∧ ∃ ph, ph ≠ 0 ∧ stuck t k ph row ∧ rda h t k ph row [] = rda h t 0 0 [] []) ∧ n = mea b t k,
    ⟨_, 0, [], [], true, none, rfl, r, fun _ => rfl, fun z => (by cases z), rfl⟩, ?_⟩
  rintro n g m' ⟨k, row, st, b, x, rfl, ⟨dx, ea, oa, bs, r'⟩, h1, h2, rfl⟩
  have tl := r'.tl
  simp only [aSeq, aSet, aC, aVar, aOp, aTest, aTru, aAnd, aOr, aNot, aAndV, aOrV, aNotV, aIfE, aNil, aCons, aTup, aLst, aLstB, aUn, aCa, aSl, aNo, aPart, aM, aML, aRet, aRetN, aIf, aDo, aNext, aCont, aBrk, aAsg, aCall, aCallX, aMeth, aFld, aSetFld, aFldAug, aAug, aRaise, aMake, aYes, kName, kCons, kNil, kSub, nth, put, wipeD, asT_b, fAdd_i, fAdd_s, fAdd_t, fAdd_l, fSub_i, fLt_i, fLe_i, fGt_i, fGe_i, fMul_i, fMod_i, fFdiv_i, fPow_i, fNeg_i, fEq_i, fEq_s, fEq_b, fNe_i, fNe_s, fNe_b, fIn_s, fNi_s, fIx_t0, fIx_t1, fIx_t2, fIx_l0, fIx_l1, fSl_s, fSl_t, fSl_l, fLen_t, fLen_l, fInt_i, fAbs_i, fMax_i, fMin_i, fTuple_t, fTuple_l, fList_t, fList_l, fRepS_s, seqOf_t, seqOf_l, truD_b, truD_t, truD_l, kTup_t, fIsN_n, fIsi_non_int, fIsi_non_bool, fIsi_non_str, fIsi_non_tuple, fIsi_non_list, fIsi_bl_int, fIsi_bl_bool, fIsi_bl_str, fIsi_bl_tuple, fIsi_bl_list, fIsi_int_int, fIsi_int_bool, fIsi_int_str, fIsi_int_tuple, fIsi_int_list, fIsi_str_int, fIsi_str_bool, fIsi_str_str, fIsi_str_tuple, fIsi_str_list, fIsi_tup_int, fIsi_tup_bool, fIsi_tup_str, fIsi_tup_tuple, fIsi_tup_list, fIsi_lst_int, fIsi_lst_bool, fIsi_lst_str, fIsi_lst_tuple, fIsi_lst_list, isN, fIx_sy0, fIx_sy1, ite_tt, ite_ff]
  cases b with
  | true =>
    rw [if_pos rfl]
    refine ⟨by rw [r'.isI (nm := "read_symbol") (by simp)]; trivial, m0, o, t, h, k, row, st, rfl, ⟨dx, ea, oa, bs, r'⟩, fun e => ?_, fun k' w b m2 e r2 => ?_⟩
    · exact hw m' k r'.sub ((h1 rfl).symm.trans (sym_none e))
    obtain ⟨e1, e2, e3⟩ := sym_some (row := row) (st := st) e
    rw [h1 rfl] at e1
    have hkl : k' ≤ t.length := by
      obtain ⟨_, _, _, _, r2⟩ := r2
      exact r2.kl
    have hwl : wl (row ++ [(⟨w, 0⟩ : Sy)]) ((row ++ [(⟨w, 0⟩ : Sy)]).length - 1) = w.length := by
      unfold wl
      rw [List.length_append, List.length_singleton, Nat.add_sub_cancel, app_last]
    have ends : ∀ x : Option D, (b = true → ∀ c, t[k']? = some c → c ≠ 40) → isI C "read_ends" m2 (.box o) ∧ sp_ends C CI [.box o] m2 (fun d m1 => ∃ n', n' < mea true t k ∧ ∃ (k : Nat) (row : List Sy) (st : List Nat) (b : Bool) (x' : Option D), [some (.box o), some d, x, none, none] = [some (.box o), some (.bl b), x', none, none] ∧ RdE m0 m1 C o t h k row st ∧ (b = true → rda h t k 0 row st = rda h t 0 0 [] []) ∧ (b = false → st = [] ∧ ∃ ph, ph ≠ 0 ∧ stuck t k ph row ∧ rda h t k ph row [] = rda h t 0 0 [] []) ∧ n' = mea b t k) W := fun x hno => by
      refine ⟨?_, m0, o, t, h, k', if b = true then 1 else 2, _, _, rfl, r2, by cases b <;> simp, fun c hc hp => ?_, fun m3 k3 row3 st3 r3 hk _ he => ?_, fun m3 k3 ph3 r3 hk hp3 hs3 he => ?_, fun m3 j hs he => ?_⟩
      · obtain ⟨_, _, _, _, r2⟩ := r2
        rw [r2.isI (nm := "read_ends") (by simp)]
        trivial
      · have hb : b = true := by
          cases b with
          | true => rfl
          | false => cases hp
        rw [hwl]
        exact ⟨e3 hb c hc, hno hb c hc⟩
      · have : k3 ≤ t.length := by
          obtain ⟨_, _, _, _, r3⟩ := r3
          exact r3.kl
        exact ⟨mea true t k3, by rw [mea_t, mea_t]; omega, k3, row3, st3, true, x, rfl, r3, fun _ => he.trans e1.symm, fun z => (by cases z), rfl⟩
      · exact ⟨mea false t k3, by rw [mea_t, mea_f]; omega, k3, _, [], false, x, rfl, r3, fun z => (by cases z), fun _ => ⟨rfl, ph3, hp3, hs3, he.trans e1.symm⟩, rfl⟩
      · exact hw m3 j hs (e1.trans he)
    simp only [aSeq, aSet, aC, aVar, aOp, aTest, aTru, aAnd, aOr, aNot, aAndV, aOrV, aNotV, aIfE, aNil, aCons, aTup, aLst, aLstB, aUn, aCa, aSl, aNo, aPart, aM, aML, aRet, aRetN, aIf, aDo, aNext, aCont, aBrk, aAsg, aCall, aCallX, aMeth, aFld, aSetFld, aFldAug, aAug, aRaise, aMake, aYes, kName, kCons, kNil, kSub, nth, put, wipeD, asT_b, fAdd_i, fAdd_s, fAdd_t, fAdd_l, fSub_i, fLt_i, fLe_i, fGt_i, fGe_i, fMul_i, fMod_i, fFdiv_i, fPow_i, fNeg_i, fEq_i, fEq_s, fEq_b, fNe_i, fNe_s, fNe_b, fIn_s, fNi_s, fIx_t0, fIx_t1, fIx_t2, fIx_l0, fIx_l1, fSl_s, fSl_t, fSl_l, fLen_t, fLen_l, fInt_i, fAbs_i, fMax_i, fMin_i, fTuple_t, fTuple_l, fList_t, fList_l, fRepS_s, seqOf_t, seqOf_l, truD_b, truD_t, truD_l, kTup_t, fIsN_n, fIsi_non_int, fIsi_non_bool, fIsi_non_str, fIsi_non_tuple, fIsi_non_list, fIsi_bl_int, fIsi_bl_bool, fIsi_bl_str, fIsi_bl_tuple, fIsi_bl_list, fIsi_int_int, fIsi_int_bool, fIsi_int_str, fIsi_int_tuple, fIsi_int_list, fIsi_str_int, fIsi_str_bool, fIsi_str_str, fIsi_str_tuple, fIsi_str_list, fIsi_tup_int, fIsi_tup_bool, fIsi_tup_str, fIsi_tup_tuple, fIsi_tup_list, fIsi_lst_int, fIsi_lst_bool, fIsi_lst_str, fIsi_lst_tuple, fIsi_lst_list, isN, fIx_sy0, fIx_sy1, ite_tt, ite_ff]
    cases b with
    | false =>
      rw [if_neg (by decide)]
      exact ends _ fun z => by cases z
    | true =>
      rw [if_pos rfl] at e1
      rw [if_pos rfl]
      obtain ⟨dx2, ea2, oa2, bs2, r2'⟩ := id r2
      refine ⟨by rw [r2'.isI (nm := "sign") (.inl rfl)]; trivial, o, dx2, ea2, oa2, t, h, k', rfl, r2'.ob, tl, ?_⟩
      cases hc : t[k']? with
      | none =>
        have e0 : decide (Str.ofString "" = Str.ofString "(") = false := by decide
        simp only [aSeq, aSet, aC, aVar, aOp, aTest, aTru, aAnd, aOr, aNot, aAndV, aOrV, aNotV, aIfE, aNil, aCons, aTup, aLst, aLstB, aUn, aCa, aSl, aNo, aPart, aM, aML, aRet, aRetN, aIf, aDo, aNext, aCont, aBrk, aAsg, aCall, aCallX, aMeth, aFld, aSetFld, aFldAug, aAug, aRaise, aMake, aYes, kName, kCons, kNil, kSub, nth, put, wipeD, asT_b, fAdd_i, fAdd_s, fAdd_t, fAdd_l, fSub_i, fLt_i, fLe_i, fGt_i, fGe_i, fMul_i, fMod_i, fFdiv_i, fPow_i, fNeg_i, fEq_i, fEq_s, fEq_b, fNe_i, fNe_s, fNe_b, fIn_s, fNi_s, fIx_t0, fIx_t1, fIx_t2, fIx_l0, fIx_l1, fSl_s, fSl_t, fSl_l, fLen_t, fLen_l, fInt_i, fAbs_i, fMax_i, fMin_i, fTuple_t, fTuple_l, fList_t, fList_l, fRepS_s, seqOf_t, seqOf_l, truD_b, truD_t, truD_l, kTup_t, fIsN_n, fIsi_non_int, fIsi_non_bool, fIsi_non_str, fIsi_non_tuple, fIsi_non_list, fIsi_bl_int, fIsi_bl_bool, fIsi_bl_str, fIsi_bl_tuple, fIsi_bl_list, fIsi_int_int, fIsi_int_bool, fIsi_int_str, fIsi_int_tuple, fIsi_int_list, fIsi_str_int, fIsi_str_bool, fIsi_str_str, fIsi_str_tuple, fIsi_str_list, fIsi_tup_int, fIsi_tup_bool, fIsi_tup_str, fIsi_tup_tuple, fIsi_tup_list, fIsi_lst_int, fIsi_lst_bool, fIsi_lst_str, fIsi_lst_tuple, fIsi_lst_list, isN, fIx_sy0, fIx_sy1, ite_tt, ite_ff, sg_none hc, e0, Bool.false_eq_true, reduceIte]
        exact ends _ fun _ c z => by rw [hc] at z; cases z
      | some c =>
        simp only [aSeq, aSet, aC, aVar, aOp, aTest, aTru, aAnd, aOr, aNot, aAndV, aOrV, aNotV, aIfE, aNil, aCons, aTup, aLst, aLstB, aUn, aCa, aSl, aNo, aPart, aM, aML, aRet, aRetN, aIf, aDo, aNext, aCont, aBrk, aAsg, aCall, aCallX, aMeth, aFld, aSetFld, aFldAug, aAug, aRaise, aMake, aYes, kName, kCons, kNil, kSub, nth, put, wipeD, asT_b, fAdd_i, fAdd_s, fAdd_t, fAdd_l, fSub_i, fLt_i, fLe_i, fGt_i, fGe_i, fMul_i, fMod_i, fFdiv_i, fPow_i, fNeg_i, fEq_i, fEq_s, fEq_b, fNe_i, fNe_s, fNe_b, fIn_s, fNi_s, fIx_t0, fIx_t1, fIx_t2, fIx_l0, fIx_l1, fSl_s, fSl_t, fSl_l, fLen_t, fLen_l, fInt_i, fAbs_i, fMax_i, fMin_i, fTuple_t, fTuple_l, fList_t, fList_l, fRepS_s, seqOf_t, seqOf_l, truD_b, truD_t, truD_l, kTup_t, fIsN_n, fIsi_non_int, fIsi_non_bool, fIsi_non_str, fIsi_non_tuple, fIsi_non_list, fIsi_bl_int, fIsi_bl_bool, fIsi_bl_str, fIsi_bl_tuple, fIsi_bl_list, fIsi_int_int, fIsi_int_bool, fIsi_int_str, fIsi_int_tuple, fIsi_int_list, fIsi_str_int, fIsi_str_bool, fIsi_str_str, fIsi_str_tuple, fIsi_str_list, fIsi_tup_int, fIsi_tup_bool, fIsi_tup_str, fIsi_tup_tuple, fIsi_tup_list, fIsi_lst_int, fIsi_lst_bool, fIsi_lst_str, fIsi_lst_tuple, fIsi_lst_list, isN, fIx_sy0, fIx_sy1, ite_tt, ite_ff, sg_some hc, dq_opn]
        by_cases ho : c = 40
        · rw [if_pos (decide_eq_true ho)]
          subst ho
          have hkt := (List.getElem?_eq_some_iff.mp hc).1
          refine ⟨by rw [r2'.isI (nm := "open_bracket") (by simp)]; trivial, m0, o, t, h, k', _, _, rfl, r2, by simp, hkt, fun m3 r3 => ?_⟩
          refine ⟨mea true t (k' + 1), by rw [mea_t, mea_t]; omega, k' + 1, _, _, true, _, rfl, r3, fun _ => ?_, fun z => (by cases z), rfl⟩
          rw [e1, rda_go hc nxt1o]
        · rw [if_neg (by simp [ho])]
          exact ends _ fun _ c' hc' z => by rw [hc] at hc'; cases hc'; exact ho z
  | false =>
    rw [if_neg (by decide)]
    obtain ⟨rfl, ph, hp, hs, he⟩ := h2 rfl
    refine cut_plain ?_
    simp only [aSeq, aSet, aC, aVar, aOp, aTest, aTru, aAnd, aOr, aNot, aAndV, aOrV, aNotV, aIfE, aNil, aCons, aTup, aLst, aLstB, aUn, aCa, aSl, aNo, aPart, aM, aML, aRet, aRetN, aIf, aDo, aNext, aCont, aBrk, aAsg, aCall, aCallX, aMeth, aFld, aSetFld, aFldAug, aAug, aRaise, aMake, aYes, kName, kCons, kNil, kSub, nth, put, wipeD, asT_b, fAdd_i, fAdd_s, fAdd_t, fAdd_l, fSub_i, fLt_i, fLe_i, fGt_i, fGe_i, fMul_i, fMod_i, fFdiv_i, fPow_i, fNeg_i, fEq_i, fEq_s, fEq_b, fNe_i, fNe_s, fNe_b, fIn_s, fNi_s, fIx_t0, fIx_t1, fIx_t2, fIx_l0, fIx_l1, fSl_s, fSl_t, fSl_l, fLen_t, fLen_l, fInt_i, fAbs_i, fMax_i, fMin_i, fTuple_t, fTuple_l, fList_t, fList_l, fRepS_s, seqOf_t, seqOf_l, truD_b, truD_t, truD_l, kTup_t, fIsN_n, fIsi_non_int, fIsi_non_bool, fIsi_non_str, fIsi_non_tuple, fIsi_non_list, fIsi_bl_int, fIsi_bl_bool, fIsi_bl_str, fIsi_bl_tuple, fIsi_bl_list, fIsi_int_int, fIsi_int_bool, fIsi_int_str, fIsi_int_tuple, fIsi_int_list, fIsi_str_int, fIsi_str_bool, fIsi_str_str, fIsi_str_tuple, fIsi_str_list, fIsi_tup_int, fIsi_tup_bool, fIsi_tup_str, fIsi_tup_tuple, fIsi_tup_list, fIsi_lst_int, fIsi_lst_bool, fIsi_lst_str, fIsi_lst_tuple, fIsi_lst_list, isN, fIx_sy0, fIx_sy1, ite_tt, ite_ff, fldOf_b r'.ob, rdF_at, rdF_text, fLen_s (show (tx t).length ≤ 1000000 by rw [tx_len]; omega), tx_len]
    by_cases hk : (k : Int) < (t.length : Int)
    · rw [if_pos (decide_eq_true hk)]
      refine ⟨by rw [r'.isI (nm := "refuse") (by simp)]; trivial, o, dx, ea, oa, t, h, k, rfl, r'.ob, ?_⟩
      obtain ⟨c, hc⟩ : ∃ c, t[k]? = some c := ⟨_, List.getElem?_eq_getElem (by omega)⟩
      exact hw m' k r'.sub (he.symm.trans (rda_no hc (nxt_nil hp (hs c hc))))
    · rw [if_neg (by simpa using hk)]
      have hfin : rda h t 0 0 [] [] = .ok row := by
        rw [← he]
        unfold rda
        rw [List.drop_eq_nil_of_le (by omega)]
        show (if ph = 0 ∨ ([] : List Nat) ≠ [] then Rs.err k else .ok row) = _
        rw [if_neg (fun z => z.elim hp fun y => y rfl)]
      have rl := r'.rl
      have kl := r'.kl
      simp only [aSeq, aSet, aC, aVar, aOp, aTest, aTru, aAnd, aOr, aNot, aAndV, aOrV, aNotV, aIfE, aNil, aCons, aTup, aLst, aLstB, aUn, aCa, aSl, aNo, aPart, aM, aML, aRet, aRetN, aIf, aDo, aNext, aCont, aBrk, aAsg, aCall, aCallX, aMeth, aFld, aSetFld, aFldAug, aAug, aRaise, aMake, aYes, kName, kCons, kNil, kSub, nth, put, wipeD, asT_b, fAdd_i, fAdd_s, fAdd_t, fAdd_l, fSub_i, fLt_i, fLe_i, fGt_i, fGe_i, fMul_i, fMod_i, fFdiv_i, fPow_i, fNeg_i, fEq_i, fEq_s, fEq_b, fNe_i, fNe_s, fNe_b, fIn_s, fNi_s, fIx_t0, fIx_t1, fIx_t2, fIx_l0, fIx_l1, fSl_s, fSl_t, fSl_l, fLen_t, fLen_l, fInt_i, fAbs_i, fMax_i, fMin_i, fTuple_t, fTuple_l, fList_t, fList_l, fRepS_s, seqOf_t, seqOf_l, truD_b, truD_t, truD_l, kTup_t, fIsN_n, fIsi_non_int, fIsi_non_bool, fIsi_non_str, fIsi_non_tuple, fIsi_non_list, fIsi_bl_int, fIsi_bl_bool, fIsi_bl_str, fIsi_bl_tuple, fIsi_bl_list, fIsi_int_int, fIsi_int_bool, fIsi_int_str, fIsi_int_tuple, fIsi_int_list, fIsi_str_int, fIsi_str_bool, fIsi_str_str, fIsi_str_tuple, fIsi_str_list, fIsi_tup_int, fIsi_tup_bool, fIsi_tup_str, fIsi_tup_tuple, fIsi_tup_list, fIsi_lst_int, fIsi_lst_bool, fIsi_lst_str, fIsi_lst_tuple, fIsi_lst_list, isN, fIx_sy0, fIx_sy1, ite_tt, ite_ff, aLc, fldOf_b r'.ob, rdF_en, seqOf_b r'.en.lst]
      refine ⟨bs.map .box, rfl, fun p hp => lc_pure (fun i => (row[i]?).map syD) (by rw [List.length_map, r'.en.len]; omega) (fun acc => ?_) (fun i acc hi hacc => ?_) ?_⟩
      · have : ea ≠ p := fun z => by
          rw [← z, r'.en.lst] at hp
          cases hp
        rw [seqOf_b (show mset m' p (.lst acc) ea = some (.lst (bs.map .box)) by rw [mset_ne this]; exact r'.en.lst)]
      · have hi : i < row.length := by
          rw [List.length_map, r'.en.len] at hi
          exact hi
        have hs := List.getElem?_eq_getElem hi
        obtain ⟨b, hb, hbm, hbr, hmb⟩ := r'.en.at_ hs
        have hbp : b ≠ p := fun z => by
          rw [← z, hmb] at hp
          cases hp
        have hmb2 : mset m' p (.lst acc) b = some (.lst [.str (tx row[i].w), .int (row[i].n : Int)]) := by
          rw [mset_ne hbp]
          exact hmb
        have hg : (bs.map D.box).getD i .non = .box b := by
          rw [List.getD_eq_getElem?_getD, List.getElem?_map, hb]
          rfl
        simp only [hg]
        simp only [aSeq, aSet, aC, aVar, aOp, aTest, aTru, aAnd, aOr, aNot, aAndV, aOrV, aNotV, aIfE, aNil, aCons, aTup, aLst, aLstB, aUn, aCa, aSl, aNo, aPart, aM, aML, aRet, aRetN, aIf, aDo, aNext, aCont, aBrk, aAsg, aCall, aCallX, aMeth, aFld, aSetFld, aFldAug, aAug, aRaise, aMake, aYes, kName, kCons, kNil, kSub, nth, put, wipeD, asT_b, fAdd_i, fAdd_s, fAdd_t, fAdd_l, fSub_i, fLt_i, fLe_i, fGt_i, fGe_i, fMul_i, fMod_i, fFdiv_i, fPow_i, fNeg_i, fEq_i, fEq_s, fEq_b, fNe_i, fNe_s, fNe_b, fIn_s, fNi_s, fIx_t0, fIx_t1, fIx_t2, fIx_l0, fIx_l1, fSl_s, fSl_t, fSl_l, fLen_t, fLen_l, fInt_i, fAbs_i, fMax_i, fMin_i, fTuple_t, fTuple_l, fList_t, fList_l, fRepS_s, seqOf_t, seqOf_l, truD_b, truD_t, truD_l, kTup_t, fIsN_n, fIsi_non_int, fIsi_non_bool, fIsi_non_str, fIsi_non_tuple, fIsi_non_list, fIsi_bl_int, fIsi_bl_bool, fIsi_bl_str, fIsi_bl_tuple, fIsi_bl_list, fIsi_int_int, fIsi_int_bool, fIsi_int_str, fIsi_int_tuple, fIsi_int_list, fIsi_str_int, fIsi_str_bool, fIsi_str_str, fIsi_str_tuple, fIsi_str_list, fIsi_tup_int, fIsi_tup_bool, fIsi_tup_str, fIsi_tup_tuple, fIsi_tup_list, fIsi_lst_int, fIsi_lst_bool, fIsi_lst_str, fIsi_lst_tuple, fIsi_lst_list, isN, fIx_sy0, fIx_sy1, ite_tt, ite_ff, kTwo, seqOf_b hmb2]
        exact ⟨by simp, pvF_yes hacc (by rw [hs]; rfl)⟩
      · rw [if_pos (by trivial), mdel_mset hp]
        have e2 : (List.range (bs.map D.box).length).filterMap (fun i => (row[i]?).map syD) = row.map syD := by
          rw [List.length_map, r'.en.len]
          exact fm_map fun i a ha => by rw [ha] <;> rfl
        rw [e2]
        exact fzE.of (hq row m' r'.sub hfin)
/-! ### the two readings -/
def noStr (m : Mu) (d : D) : Prop := ∃ ty, tyOf m d = some ty ∧ isiT ty "str" = some false
def sp_reads (h : Bool) (CI CN : Addr) : ASp := fun ds m P W => (∃ t : List Nat, ds = [.str (tx t)] ∧ t.length ≤ 20000 ∧ (∀ F, rdm h t 0 [] [] 0 = .ok F → P (rowD F) m) ∧ ∀ m' j, Sub m m' → rdm h t 0 [] [] 0 = .err j → W CI (erD j) m') ∨
  ∃ d, ds = [d] ∧ noStr m d ∧ W CN [("at", .int (-1)), ("word", .str "text")] m
theorem isi_no {m : Mu} {d : D} {P : PD} (e : noStr m d) : fIsi [d, .ty "str"] m P = P (.bl false) m := by
  obtain ⟨ty, h1, h2⟩ := e
  simp only [fIsi, h1, h2]
theorem reads_go {h : Bool} {C CI CN : Addr} : ∀ ds m Q W, sp_reads h CI CN ds m Q W → (aSeq (aDo (aCallX W (sp_need CN) (aCons (aCa fIsi (aCons (aVar 0) (aCons (aC (.ty "str")) aNil))) (aCons (aC (.str "text")) aNil))))
    (aRet (aMeth C "read_all" W (sp_all C CI) (aMake C (fun _ _ _ => False) (sp_init C) (aCons (aVar 0) (aCons (aC (.bl h)) aNil))) aNil))) { nx := fun _ m' => fzE K Q .non m', rt := fzE K Q } (ds.map some ++ List.replicate (1 - ds.length) none) m := by
  rintro ds m Q W (⟨t, rfl, hl, hq, hw⟩ | ⟨d, rfl, hd, hw⟩)
  · show (aSeq _ _) _ [some (.str (tx t))] m
    simp only [aSeq, aSet, aC, aVar, aOp, aTest, aTru, aAnd, aOr, aNot, aAndV, aOrV, aNotV, aIfE, aNil, aCons, aTup, aLst, aLstB, aUn, aCa, aSl, aNo, aPart, aM, aML, aRet, aRetN, aIf, aDo, aNext, aCont, aBrk, aAsg, aCall, aCallX, aMeth, aFld, aSetFld, aFldAug, aAug, aRaise, aMake, aYes, kName, kCons, kNil, kSub, nth, put, wipeD, asT_b, fAdd_i, fAdd_s, fAdd_t, fAdd_l, fSub_i, fLt_i, fLe_i, fGt_i, fGe_i, fMul_i, fMod_i, fFdiv_i, fPow_i, fNeg_i, fEq_i, fEq_s, fEq_b, fNe_i, fNe_s, fNe_b, fIn_s, fNi_s, fIx_t0, fIx_t1, fIx_t2, fIx_l0, fIx_l1, fSl_s, fSl_t, fSl_l, fLen_t, fLen_l, fInt_i, fAbs_i, fMax_i, fMin_i, fTuple_t, fTuple_l, fList_t, fList_l, fRepS_s, seqOf_t, seqOf_l, truD_b, truD_t, truD_l, kTup_t, fIsN_n, fIsi_non_int, fIsi_non_bool, fIsi_non_str, fIsi_non_tuple, fIsi_non_list, fIsi_bl_int, fIsi_bl_bool, fIsi_bl_str, fIsi_bl_tuple, fIsi_bl_list, fIsi_int_int, fIsi_int_bool, fIsi_int_str, fIsi_int_tuple, fIsi_int_list, fIsi_str_int, fIsi_str_bool, fIsi_str_str, fIsi_str_tuple, fIsi_str_list, fIsi_tup_int, fIsi_tup_bool, fIsi_tup_str, fIsi_tup_tuple, fIsi_tup_list, fIsi_lst_int, fIsi_lst_bool, fIsi_lst_str, fIsi_lst_tuple, fIsi_lst_list, isN, fIx_sy0, fIx_sy1, ite_tt, ite_ff]
    refine ⟨true, _, rfl, fun _ => ?_, fun z => by cases z⟩
    intro o dx ho
    refine ⟨o, dx, t, h, rfl, mset_same, fun ea oa m' he hoa hne h1 h2 h3 h4 => ?_⟩
    have eo : ea ≠ o := fun z => by
      rw [z, mset_same] at he
      cases he
    have oo : oa ≠ o := fun z => by
      rw [z, mset_same] at hoa
      cases hoa
    rw [mset_ne eo] at he
    rw [mset_ne oo] at hoa
    have sub : Sub m m' := fun a u ha => by
      have a1 : a ≠ o := fun z => by
        rw [z, ho] at ha
        cases ha
      have a2 : a ≠ ea := fun z => by
        rw [z, he] at ha
        cases ha
      have a3 : a ≠ oa := fun z => by
        rw [z, hoa] at ha
        cases ha
      rw [h4 a a1 a2 a3, mset_ne a1]
      exact ha
    have rd : Rd m m' C o dx ea oa [] t h 0 [] [] := ⟨h1, ⟨h2, rfl, fun i b s z => by simp at z, List.nodup_nil, by simp, by simp⟩, h3, by simp, hne, ho, he, hoa, sub, by simp, Nat.le_refl _, Nat.le_refl _, Nat.zero_le _, hl⟩
    refine ⟨by rw [rd.isI (nm := "read_all") (by simp)]; trivial, m, o, t, h, rfl, ⟨dx, ea, oa, [], rd⟩, fun F m2 hs hF => fzE.sub hs (hq F hF), hw⟩
  · show (aSeq _ _) _ [some d] m
    simp only [aSeq, aSet, aC, aVar, aOp, aTest, aTru, aAnd, aOr, aNot, aAndV, aOrV, aNotV, aIfE, aNil, aCons, aTup, aLst, aLstB, aUn, aCa, aSl, aNo, aPart, aM, aML, aRet, aRetN, aIf, aDo, aNext, aCont, aBrk, aAsg, aCall, aCallX, aMeth, aFld, aSetFld, aFldAug, aAug, aRaise, aMake, aYes, kName, kCons, kNil, kSub, nth, put, wipeD, asT_b, fAdd_i, fAdd_s, fAdd_t, fAdd_l, fSub_i, fLt_i, fLe_i, fGt_i, fGe_i, fMul_i, fMod_i, fFdiv_i, fPow_i, fNeg_i, fEq_i, fEq_s, fEq_b, fNe_i, fNe_s, fNe_b, fIn_s, fNi_s, fIx_t0, fIx_t1, fIx_t2, fIx_l0, fIx_l1, fSl_s, fSl_t, fSl_l, fLen_t, fLen_l, fInt_i, fAbs_i, fMax_i, fMin_i, fTuple_t, fTuple_l, fList_t, fList_l, fRepS_s, seqOf_t, seqOf_l, truD_b, truD_t, truD_l, kTup_t, fIsN_n, fIsi_non_int, fIsi_non_bool, fIsi_non_str, fIsi_non_tuple, fIsi_non_list, fIsi_bl_int, fIsi_bl_bool, fIsi_bl_str, fIsi_bl_tuple, fIsi_bl_list, fIsi_int_int, fIsi_int_bool, fIsi_int_str, fIsi_int_tuple, fIsi_int_list, fIsi_str_int, fIsi_str_bool, fIsi_str_str, fIsi_str_tuple, fIsi_str_list, fIsi_tup_int, fIsi_tup_bool, fIsi_tup_str, fIsi_tup_tuple, fIsi_tup_list, fIsi_lst_int, fIsi_lst_bool, fIsi_lst_str, fIsi_lst_tuple, fIsi_lst_list, isN, fIx_sy0, fIx_sy1, ite_tt, ite_ff, isi_no hd]
    exact ⟨false, _, rfl, fun z => (by cases z), fun _ => hw⟩
theorem rd_read_tree {C CI CN : Addr} : ∀ ds m Q W, sp_reads false CI CN ds m Q W → b_read_tree C (sp_init C) (sp_all C CI) (sp_need CN) W { nx := fun _ m' => fzE K Q .non m', rt := fzE K Q } (ds.map some ++ List.replicate (N_read_tree.length - ds.length) none) m := reads_go
theorem rd_read_pattern {C CI CN : Addr} : ∀ ds m Q W, sp_reads true CI CN ds m Q W → b_read_pattern C (sp_init C) (sp_all C CI) (sp_need CN) W { nx := fun _ m' => fzE K Q .non m', rt := fzE K Q } (ds.map some ++ List.replicate (N_read_pattern.length - ds.length) none) m := reads_go
end AL
set_option maxHeartbeats 4000000
namespace AL
open PySem L2 Evl
variable {K : PySem.W.Frag}
theorem str_tx (z : Str) : z = tx z.cps.toList := by
  show z = ⟨z.cps.toList.toArray⟩
  rw [Array.toArray_toList]
theorem str_len (z : Str) : z.cps.toList.length = z.length := by
  rw [Array.length_toList]
  rfl
theorem str_add (a b : Str) : (a ++ b).length = a.length + b.length := by
  show (a.cps ++ b.cps).size = a.cps.size + b.cps.size
  rw [Array.size_append]
/-! ### asked -/
theorem erD_line {j : Nat} : (erD j).lookup ("line" : Str) = some (.int 0) := rfl
theorem erD_at {j : Nat} : (erD j).lookup ("at" : Str) = some (.int (j : Int)) := rfl
theorem nuD_word {z : Str} : ([("at", .int (-1)), ("word", .str z)] : List (Str × D)).lookup ("word" : Str) = some (.str z) := rfl
theorem nuD_at {z : Str} : ([("at", .int (-1)), ("word", .str z)] : List (Str × D)).lookup ("at" : Str) = some (.int (-1)) := rfl
def refD : D := .tup [.str "refused", .bl true, .str "text", .int (-1)]
def sp_law_asks : ASp := fun ds m P _ => (∃ (t : List Nat) (h : Bool), ds = [.str (tx t), .bl h] ∧ t.length ≤ 20000 ∧ P (resD (rdm h t 0 [] [] 0)) m) ∨ ∃ (d : D) (h : Bool), ds = [d, .bl h] ∧ noStr m d ∧ P refD m
theorem rd_law_asks {CI CN CT CU : Addr} (hne : PySem.W.exmOne K (.ref CN) (.ref CI) = some false) : ∀ ds m Q W, sp_law_asks ds m Q W → b_law_asks K CI CN CT CU (sp_reads true CI CN) (sp_reads false CI CN) W { nx := fun _ m' => fzE K Q .non m', rt := fzE K Q } (ds.map some ++ List.replicate (N_law_asks.length - ds.length) none) m := by
  have onl : ∀ p, onlyE N_law_asks.length 2 p = [none, none, some (.box p)] := fun _ => rfl
  rintro ds m Q W (⟨t, h, rfl, hl, hq⟩ | ⟨d, h, rfl, hd, hq⟩)
  · change b_law_asks K CI CN CT CU _ _ W _ [some (.str (tx t)), some (.bl h), none] m
    unfold b_law_asks aTry
    have key : ∀ (W' : PX), (∀ m' j, Sub m m' → rdm h t 0 [] [] 0 = .err j → W' CI (erD j) m') → sp_reads h CI CN [.str (tx t)] m (fun d m1 => 2 ≤ 100000 ∧ fzE K Q (.tup [.str "told", d]) m1) W' := fun W' hw => by
      refine .inl ⟨t, rfl, hl, fun F hF => ⟨by decide, ?_⟩, hw⟩
      rw [hF] at hq
      exact fzE.of hq
    have err : ∀ (W' : PX) m' j, Sub m m' → rdm h t 0 [] [] 0 = .err j → wTry K N_law_asks.length { nx := fun _ m' => fzE K Q .non m', rt := fzE K Q } W' [⟨CI, 2, fun p fs => (aRet (aTup (aCons (aC (.str "raised")) (aCons (aCa (fIsX p CT true) (aCons (aVar 2) (aCons (aC (.box CT)) aNil))) (aCons (aXf p fs "line" (aVar 2)) (aCons (aXf p fs "at" (aVar 2)) aNil))))))⟩, ⟨CN, 2, fun p fs => (aRet (aTup (aCons (aC (.str "refused")) (aCons (aCa (fIsX p CU true) (aCons (aVar 2) (aCons (aC (.box CU)) aNil))) (aCons (aXf p fs "word" (aVar 2)) (aCons (aXf p fs "at" (aVar 2)) aNil))))))⟩] CI (erD j) m' := fun W' m' j hs he => by
      refine .inl ⟨rfl, fun p => ?_⟩
      rw [onl]
      simp only [aSeq, aSet, aC, aVar, aOp, aTest, aTru, aAnd, aOr, aNot, aAndV, aOrV, aNotV, aIfE, aNil, aCons, aTup, aLst, aLstB, aUn, aCa, aSl, aNo, aPart, aM, aML, aRet, aRetN, aIf, aDo, aNext, aCont, aBrk, aAsg, aCall, aCallX, aMeth, aFld, aSetFld, aFldAug, aAug, aRaise, aMake, aYes, kName, kCons, kNil, kSub, nth, put, wipeD, asT_b, fAdd_i, fAdd_s, fAdd_t, fAdd_l, fSub_i, fLt_i, fLe_i, fGt_i, fGe_i, fMul_i, fMod_i, fFdiv_i, fPow_i, fNeg_i, fEq_i, fEq_s, fEq_b, fNe_i, fNe_s, fNe_b, fIn_s, fNi_s, fIx_t0, fIx_t1, fIx_t2, fIx_l0, fIx_l1, fSl_s, fSl_t, fSl_l, fLen_t, fLen_l, fInt_i, fAbs_i, fMax_i, fMin_i, fTuple_t, fTuple_l, fList_t, fList_l, fRepS_s, seqOf_t, seqOf_l, truD_b, truD_t, truD_l, kTup_t, fIsN_n, fIsi_non_int, fIsi_non_bool, fIsi_non_str, fIsi_non_tuple, fIsi_non_list, fIsi_bl_int, fIsi_bl_bool, fIsi_bl_str, fIsi_bl_tuple, fIsi_bl_list, fIsi_int_int, fIsi_int_bool, fIsi_int_str, fIsi_int_tuple, fIsi_int_list, fIsi_str_int, fIsi_str_bool, fIsi_str_str, fIsi_str_tuple, fIsi_str_list, fIsi_tup_int, fIsi_tup_bool, fIsi_tup_str, fIsi_tup_tuple, fIsi_tup_list, fIsi_lst_int, fIsi_lst_bool, fIsi_lst_str, fIsi_lst_tuple, fIsi_lst_list, isN, fIx_sy0, fIx_sy1, ite_tt, ite_ff, aXf, fIsX, erD_line, erD_at, true_and]
      refine ⟨(by decide : 4 ≤ 100000), fzE.sub hs ?_⟩
      rw [he] at hq
      exact hq
    cases h with
    | true =>
      refine cut_plain ?_
      simp only [aSeq, aSet, aC, aVar, aOp, aTest, aTru, aAnd, aOr, aNot, aAndV, aOrV, aNotV, aIfE, aNil, aCons, aTup, aLst, aLstB, aUn, aCa, aSl, aNo, aPart, aM, aML, aRet, aRetN, aIf, aDo, aNext, aCont, aBrk, aAsg, aCall, aCallX, aMeth, aFld, aSetFld, aFldAug, aAug, aRaise, aMake, aYes, kName, kCons, kNil, kSub, nth, put, wipeD, asT_b, fAdd_i, fAdd_s, fAdd_t, fAdd_l, fSub_i, fLt_i, fLe_i, fGt_i, fGe_i, fMul_i, fMod_i, fFdiv_i, fPow_i, fNeg_i, fEq_i, fEq_s, fEq_b, fNe_i, fNe_s, fNe_b, fIn_s, fNi_s, fIx_t0, fIx_t1, fIx_t2, fIx_l0, fIx_l1, fSl_s, fSl_t, fSl_l, fLen_t, fLen_l, fInt_i, fAbs_i, fMax_i, fMin_i, fTuple_t, fTuple_l, fList_t, fList_l, fRepS_s, seqOf_t, seqOf_l, truD_b, truD_t, truD_l, kTup_t, fIsN_n, fIsi_non_int, fIsi_non_bool, fIsi_non_str, fIsi_non_tuple, fIsi_non_list, fIsi_bl_int, fIsi_bl_bool, fIsi_bl_str, fIsi_bl_tuple, fIsi_bl_list, fIsi_int_int, fIsi_int_bool, fIsi_int_str, fIsi_int_tuple, fIsi_int_list, fIsi_str_int, fIsi_str_bool, fIsi_str_str, fIsi_str_tuple, fIsi_str_list, fIsi_tup_int, fIsi_tup_bool, fIsi_tup_str, fIsi_tup_tuple, fIsi_tup_list, fIsi_lst_int, fIsi_lst_bool, fIsi_lst_str, fIsi_lst_tuple, fIsi_lst_list, isN, fIx_sy0, fIx_sy1, ite_tt, ite_ff, truD_b, reduceIte]
      exact key _ (err W)
    | false =>
      refine cut_plain ?_
      simp only [aSeq, aSet, aC, aVar, aOp, aTest, aTru, aAnd, aOr, aNot, aAndV, aOrV, aNotV, aIfE, aNil, aCons, aTup, aLst, aLstB, aUn, aCa, aSl, aNo, aPart, aM, aML, aRet, aRetN, aIf, aDo, aNext, aCont, aBrk, aAsg, aCall, aCallX, aMeth, aFld, aSetFld, aFldAug, aAug, aRaise, aMake, aYes, kName, kCons, kNil, kSub, nth, put, wipeD, asT_b, fAdd_i, fAdd_s, fAdd_t, fAdd_l, fSub_i, fLt_i, fLe_i, fGt_i, fGe_i, fMul_i, fMod_i, fFdiv_i, fPow_i, fNeg_i, fEq_i, fEq_s, fEq_b, fNe_i, fNe_s, fNe_b, fIn_s, fNi_s, fIx_t0, fIx_t1, fIx_t2, fIx_l0, fIx_l1, fSl_s, fSl_t, fSl_l, fLen_t, fLen_l, fInt_i, fAbs_i, fMax_i, fMin_i, fTuple_t, fTuple_l, fList_t, fList_l, fRepS_s, seqOf_t, seqOf_l, truD_b, truD_t, truD_l, kTup_t, fIsN_n, fIsi_non_int, fIsi_non_bool, fIsi_non_str, fIsi_non_tuple, fIsi_non_list, fIsi_bl_int, fIsi_bl_bool, fIsi_bl_str, fIsi_bl_tuple, fIsi_bl_list, fIsi_int_int, fIsi_int_bool, fIsi_int_str, fIsi_int_tuple, fIsi_int_list, fIsi_str_int, fIsi_str_bool, fIsi_str_str, fIsi_str_tuple, fIsi_str_list, fIsi_tup_int, fIsi_tup_bool, fIsi_tup_str, fIsi_tup_tuple, fIsi_tup_list, fIsi_lst_int, fIsi_lst_bool, fIsi_lst_str, fIsi_lst_tuple, fIsi_lst_list, isN, fIx_sy0, fIx_sy1, ite_tt, ite_ff, truD_b, Bool.false_eq_true, reduceIte]
      exact key _ (err W)
  · change b_law_asks K CI CN CT CU _ _ W _ [some d, some (.bl h), none] m
    unfold b_law_asks aTry
    have key : ∀ (P : PD) (W' : PX), W' CN [("at", .int (-1)), ("word", .str "text")] m → ∀ h, sp_reads h CI CN [d] m P W' := fun P W' hw h => .inr ⟨d, rfl, hd, hw⟩
    have err : ∀ (W' : PX), wTry K N_law_asks.length { nx := fun _ m' => fzE K Q .non m', rt := fzE K Q } W' [⟨CI, 2, fun p fs => (aRet (aTup (aCons (aC (.str "raised")) (aCons (aCa (fIsX p CT true) (aCons (aVar 2) (aCons (aC (.box CT)) aNil))) (aCons (aXf p fs "line" (aVar 2)) (aCons (aXf p fs "at" (aVar 2)) aNil))))))⟩, ⟨CN, 2, fun p fs => (aRet (aTup (aCons (aC (.str "refused")) (aCons (aCa (fIsX p CU true) (aCons (aVar 2) (aCons (aC (.box CU)) aNil))) (aCons (aXf p fs "word" (aVar 2)) (aCons (aXf p fs "at" (aVar 2)) aNil))))))⟩] CN [("at", .int (-1)), ("word", .str "text")] m := fun W' => by
      refine .inr ⟨hne, .inl ⟨rfl, fun p => ?_⟩⟩
      rw [onl]
      simp only [aSeq, aSet, aC, aVar, aOp, aTest, aTru, aAnd, aOr, aNot, aAndV, aOrV, aNotV, aIfE, aNil, aCons, aTup, aLst, aLstB, aUn, aCa, aSl, aNo, aPart, aM, aML, aRet, aRetN, aIf, aDo, aNext, aCont, aBrk, aAsg, aCall, aCallX, aMeth, aFld, aSetFld, aFldAug, aAug, aRaise, aMake, aYes, kName, kCons, kNil, kSub, nth, put, wipeD, asT_b, fAdd_i, fAdd_s, fAdd_t, fAdd_l, fSub_i, fLt_i, fLe_i, fGt_i, fGe_i, fMul_i, fMod_i, fFdiv_i, fPow_i, fNeg_i, fEq_i, fEq_s, fEq_b, fNe_i, fNe_s, fNe_b, fIn_s, fNi_s, fIx_t0, fIx_t1, fIx_t2, fIx_l0, fIx_l1, fSl_s, fSl_t, fSl_l, fLen_t, fLen_l, fInt_i, fAbs_i, fMax_i, fMin_i, fTuple_t, fTuple_l, fList_t, fList_l, fRepS_s, seqOf_t, seqOf_l, truD_b, truD_t, truD_l, kTup_t, fIsN_n, fIsi_non_int, fIsi_non_bool, fIsi_non_str, fIsi_non_tuple, fIsi_non_list, fIsi_bl_int, fIsi_bl_bool, fIsi_bl_str, fIsi_bl_tuple, fIsi_bl_list, fIsi_int_int, fIsi_int_bool, fIsi_int_str, fIsi_int_tuple, fIsi_int_list, fIsi_str_int, fIsi_str_bool, fIsi_str_str, fIsi_str_tuple, fIsi_str_list, fIsi_tup_int, fIsi_tup_bool, fIsi_tup_str, fIsi_tup_tuple, fIsi_tup_list, fIsi_lst_int, fIsi_lst_bool, fIsi_lst_str, fIsi_lst_tuple, fIsi_lst_list, isN, fIx_sy0, fIx_sy1, ite_tt, ite_ff, aXf, fIsX, nuD_word, nuD_at, true_and]
      exact ⟨(by decide : 4 ≤ 100000), fzE.of hq⟩
    cases h with
    | true =>
      refine cut_plain ?_
      simp only [aSeq, aSet, aC, aVar, aOp, aTest, aTru, aAnd, aOr, aNot, aAndV, aOrV, aNotV, aIfE, aNil, aCons, aTup, aLst, aLstB, aUn, aCa, aSl, aNo, aPart, aM, aML, aRet, aRetN, aIf, aDo, aNext, aCont, aBrk, aAsg, aCall, aCallX, aMeth, aFld, aSetFld, aFldAug, aAug, aRaise, aMake, aYes, kName, kCons, kNil, kSub, nth, put, wipeD, asT_b, fAdd_i, fAdd_s, fAdd_t, fAdd_l, fSub_i, fLt_i, fLe_i, fGt_i, fGe_i, fMul_i, fMod_i, fFdiv_i, fPow_i, fNeg_i, fEq_i, fEq_s, fEq_b, fNe_i, fNe_s, fNe_b, fIn_s, fNi_s, fIx_t0, fIx_t1, fIx_t2, fIx_l0, fIx_l1, fSl_s, fSl_t, fSl_l, fLen_t, fLen_l, fInt_i, fAbs_i, fMax_i, fMin_i, fTuple_t, fTuple_l, fList_t, fList_l, fRepS_s, seqOf_t, seqOf_l, truD_b, truD_t, truD_l, kTup_t, fIsN_n, fIsi_non_int, fIsi_non_bool, fIsi_non_str, fIsi_non_tuple, fIsi_non_list, fIsi_bl_int, fIsi_bl_bool, fIsi_bl_str, fIsi_bl_tuple, fIsi_bl_list, fIsi_int_int, fIsi_int_bool, fIsi_int_str, fIsi_int_tuple, fIsi_int_list, fIsi_str_int, fIsi_str_bool, fIsi_str_str, fIsi_str_tuple, fIsi_str_list, fIsi_tup_int, fIsi_tup_bool, fIsi_tup_str, fIsi_tup_tuple, fIsi_tup_list, fIsi_lst_int, fIsi_lst_bool, fIsi_lst_str, fIsi_lst_tuple, fIsi_lst_list, isN, fIx_sy0, fIx_sy1, ite_tt, ite_ff, truD_b, reduceIte]
      exact key _ _ (err W) true
    | false =>
      refine cut_plain ?_
      simp only [aSeq, aSet, aC, aVar, aOp, aTest, aTru, aAnd, aOr, aNot, aAndV, aOrV, aNotV, aIfE, aNil, aCons, aTup, aLst, aLstB, aUn, aCa, aSl, aNo, aPart, aM, aML, aRet, aRetN, aIf, aDo, aNext, aCont, aBrk, aAsg, aCall, aCallX, aMeth, aFld, aSetFld, aFldAug, aAug, aRaise, aMake, aYes, kName, kCons, kNil, kSub, nth, put, wipeD, asT_b, fAdd_i, fAdd_s, fAdd_t, fAdd_l, fSub_i, fLt_i, fLe_i, fGt_i, fGe_i, fMul_i, fMod_i, fFdiv_i, fPow_i, fNeg_i, fEq_i, fEq_s, fEq_b, fNe_i, fNe_s, fNe_b, fIn_s, fNi_s, fIx_t0, fIx_t1, fIx_t2, fIx_l0, fIx_l1, fSl_s, fSl_t, fSl_l, fLen_t, fLen_l, fInt_i, fAbs_i, fMax_i, fMin_i, fTuple_t, fTuple_l, fList_t, fList_l, fRepS_s, seqOf_t, seqOf_l, truD_b, truD_t, truD_l, kTup_t, fIsN_n, fIsi_non_int, fIsi_non_bool, fIsi_non_str, fIsi_non_tuple, fIsi_non_list, fIsi_bl_int, fIsi_bl_bool, fIsi_bl_str, fIsi_bl_tuple, fIsi_bl_list, fIsi_int_int, fIsi_int_bool, fIsi_int_str, fIsi_int_tuple, fIsi_int_list, fIsi_str_int, fIsi_str_bool, fIsi_str_str, fIsi_str_tuple, fIsi_str_list, fIsi_tup_int, fIsi_tup_bool, fIsi_tup_str, fIsi_tup_tuple, fIsi_tup_list, fIsi_lst_int, fIsi_lst_bool, fIsi_lst_str, fIsi_lst_tuple, fIsi_lst_list, isN, fIx_sy0, fIx_sy1, ite_tt, ite_ff, truD_b, Bool.false_eq_true, reduceIte]
      exact key _ _ (err W) false
/-! ### a text is right -/
theorem nxt_ne {h : Bool} {c ph ph' : Nat} {row row' : List Sy} {st st' : List Nat} (hr : ∀ s ∈ row, s.w ≠ []) (e : nxt h c ph row st = some (ph', row', st')) : ∀ s ∈ row', s.w ≠ [] := by
  have md : ∀ (f : Sy → Sy) i, (∀ s, s.w ≠ [] → (f s).w ≠ []) → ∀ s ∈ modS f row i, s.w ≠ [] := fun f i hf s hs => by
    obtain ⟨j, hj⟩ := List.getElem?_of_mem hs
    by_cases z : j = i
    · subst z
      cases e : row[j]? with
      | none =>
        have h1 : row.length ≤ j := List.getElem?_eq_none_iff.mp e
        have h2 := (List.getElem?_eq_some_iff.mp hj).1
        rw [modS_len] at h2
        omega
      | some q =>
        rw [modS_same e] at hj
        cases hj
        exact hf q (hr q (List.mem_of_getElem? e))
    · rw [modS_ne z] at hj
      exact hr s (List.mem_of_getElem? hj)
  have ap : ∀ n, ∀ s ∈ row ++ [(⟨[c], n⟩ : Sy)], s.w ≠ [] := fun n s hs => by
    rcases List.mem_append.mp hs with z | z
    · exact hr s z
    · rw [List.mem_singleton.mp z]
      simp
  unfold nxt at e
  repeat' split at e
  all_goals first | (cases e; done) | (cases e; first | exact ap _ | exact hr | exact md oneS _ (fun s hs => hs) | exact md incS _ (fun s hs => hs) | exact md (addS c) _ (fun s hs => by simp [addS]))
theorem rdm_ne {h : Bool} {F : List Sy} : ∀ (t : List Nat) (ph : Nat) (row : List Sy) (st : List Nat) (k : Nat), (∀ s ∈ row, s.w ≠ []) → rdm h t ph row st k = .ok F → ∀ s ∈ F, s.w ≠ [] := by
  intro t
  induction t with
  | nil =>
    intro ph row st k hr e
    unfold rdm at e
    split at e
    · cases e
    · cases e
      exact hr
  | cons c t ih =>
    intro ph row st k hr e
    unfold rdm at e
    cases e0 : nxt h c ph row st with
    | none =>
      rw [e0] at e
      cases e
    | some z =>
      obtain ⟨ph', row', st'⟩ := z
      rw [e0] at e
      exact ih ph' row' st' (k + 1) (nxt_ne hr e0) e
theorem res_size {h : Bool} {t : List Nat} : pure? (resD (rdm h t 0 [] [] 0)) = true ∧ dsize (resD (rdm h t 0 [] [] 0)) ≤ 3 * t.length + 5 := by
  cases e : rdm h t 0 [] [] 0 with
  | err k =>
    refine ⟨rfl, ?_⟩
    show 5 ≤ 3 * t.length + 5
    omega
  | ok F =>
    have := rdm_len t 0 [] [] 0 e
    rw [List.length_nil, Nat.zero_add] at this
    constructor
    · show (pure? (D.str "told") && (pure? (rowD F) && pures? [])) = true
      rw [row_pure]
      rfl
    · show dsize (D.str "told") + (dsize (rowD F) + dsizes []) + 1 ≤ _
      rw [row_size]
      show 1 + (3 * F.length + 1 + 0) + 1 ≤ _
      omega
def sp_law_right : ASp := fun ds m P _ => ∃ z : Str, ds = [.str z] ∧ z.length ≤ 20000 ∧ P (.bl true) m
theorem rd_law_right : ∀ ds m Q W, sp_law_right ds m Q W → b_law_right sp_law_asks sp_law_read sp_law_same sp_shown W { nx := fun _ m' => fzE K Q .non m', rt := fzE K Q } (ds.map some ++ List.replicate (N_law_right.length - ds.length) none) m := by
  rintro ds m Q W ⟨z, rfl, hl, hq⟩
  obtain ⟨t, rfl⟩ : ∃ t, z = tx t := ⟨_, str_tx z⟩
  rw [tx_len] at hl
  change b_law_right sp_law_asks sp_law_read sp_law_same sp_shown W _ [some (.str (tx t)), none, none, none] m
  unfold b_law_right
  simp only [aSeq, aSet, aC, aVar, aOp, aTest, aTru, aAnd, aOr, aNot, aAndV, aOrV, aNotV, aIfE, aNil, aCons, aTup, aLst, aLstB, aUn, aCa, aSl, aNo, aPart, aM, aML, aRet, aRetN, aIf, aDo, aNext, aCont, aBrk, aAsg, aCall, aCallX, aMeth, aFld, aSetFld, aFldAug, aAug, aRaise, aMake, aYes, kName, kCons, kNil, kSub, nth, put, wipeD, asT_b, fAdd_i, fAdd_s, fAdd_t, fAdd_l, fSub_i, fLt_i, fLe_i, fGt_i, fGe_i, fMul_i, fMod_i, fFdiv_i, fPow_i, fNeg_i, fEq_i, fEq_s, fEq_b, fNe_i, fNe_s, fNe_b, fIn_s, fNi_s, fIx_t0, fIx_t1, fIx_t2, fIx_l0, fIx_l1, fSl_s, fSl_t, fSl_l, fLen_t, fLen_l, fInt_i, fAbs_i, fMax_i, fMin_i, fTuple_t, fTuple_l, fList_t, fList_l, fRepS_s, seqOf_t, seqOf_l, truD_b, truD_t, truD_l, kTup_t, fIsN_n, fIsi_non_int, fIsi_non_bool, fIsi_non_str, fIsi_non_tuple, fIsi_non_list, fIsi_bl_int, fIsi_bl_bool, fIsi_bl_str, fIsi_bl_tuple, fIsi_bl_list, fIsi_int_int, fIsi_int_bool, fIsi_int_str, fIsi_int_tuple, fIsi_int_list, fIsi_str_int, fIsi_str_bool, fIsi_str_str, fIsi_str_tuple, fIsi_str_list, fIsi_tup_int, fIsi_tup_bool, fIsi_tup_str, fIsi_tup_tuple, fIsi_tup_list, fIsi_lst_int, fIsi_lst_bool, fIsi_lst_str, fIsi_lst_tuple, fIsi_lst_list, isN, fIx_sy0, fIx_sy1, ite_tt, ite_ff, aFor]
  refine ⟨by decide, _, rfl, fun i g m' => (∃ a b c, g = [some (.str (tx t)), a, b, c]) ∧ m' = m, ⟨⟨none, none, none, rfl⟩, rfl⟩, fun _ _ _ _ _ => rfl, ?_, ?_⟩
  · rintro i x g m' hx ⟨⟨a, b, c, rfl⟩, rfl⟩
    obtain ⟨h, rfl⟩ : ∃ h, x = .bl h := by
      have := List.mem_of_getElem? hx
      simp only [List.mem_cons, List.not_mem_nil, or_false] at this
      rcases this with rfl | rfl <;> exact ⟨_, rfl⟩
    obtain ⟨r1, r2⟩ := res_size (h := h) (t := t)
    simp only [aSeq, aSet, aC, aVar, aOp, aTest, aTru, aAnd, aOr, aNot, aAndV, aOrV, aNotV, aIfE, aNil, aCons, aTup, aLst, aLstB, aUn, aCa, aSl, aNo, aPart, aM, aML, aRet, aRetN, aIf, aDo, aNext, aCont, aBrk, aAsg, aCall, aCallX, aMeth, aFld, aSetFld, aFldAug, aAug, aRaise, aMake, aYes, kName, kCons, kNil, kSub, nth, put, wipeD, asT_b, fAdd_i, fAdd_s, fAdd_t, fAdd_l, fSub_i, fLt_i, fLe_i, fGt_i, fGe_i, fMul_i, fMod_i, fFdiv_i, fPow_i, fNeg_i, fEq_i, fEq_s, fEq_b, fNe_i, fNe_s, fNe_b, fIn_s, fNi_s, fIx_t0, fIx_t1, fIx_t2, fIx_l0, fIx_l1, fSl_s, fSl_t, fSl_l, fLen_t, fLen_l, fInt_i, fAbs_i, fMax_i, fMin_i, fTuple_t, fTuple_l, fList_t, fList_l, fRepS_s, seqOf_t, seqOf_l, truD_b, truD_t, truD_l, kTup_t, fIsN_n, fIsi_non_int, fIsi_non_bool, fIsi_non_str, fIsi_non_tuple, fIsi_non_list, fIsi_bl_int, fIsi_bl_bool, fIsi_bl_str, fIsi_bl_tuple, fIsi_bl_list, fIsi_int_int, fIsi_int_bool, fIsi_int_str, fIsi_int_tuple, fIsi_int_list, fIsi_str_int, fIsi_str_bool, fIsi_str_str, fIsi_str_tuple, fIsi_str_list, fIsi_tup_int, fIsi_tup_bool, fIsi_tup_str, fIsi_tup_tuple, fIsi_tup_list, fIsi_lst_int, fIsi_lst_bool, fIsi_lst_str, fIsi_lst_tuple, fIsi_lst_list, isN, fIx_sy0, fIx_sy1, ite_tt, ite_ff]
    refine ⟨t, h, rfl, hl, .inl ⟨t, h, rfl, hl, ?_⟩⟩
    refine cut_plain ?_
    simp only [aSeq, aSet, aC, aVar, aOp, aTest, aTru, aAnd, aOr, aNot, aAndV, aOrV, aNotV, aIfE, aNil, aCons, aTup, aLst, aLstB, aUn, aCa, aSl, aNo, aPart, aM, aML, aRet, aRetN, aIf, aDo, aNext, aCont, aBrk, aAsg, aCall, aCallX, aMeth, aFld, aSetFld, aFldAug, aAug, aRaise, aMake, aYes, kName, kCons, kNil, kSub, nth, put, wipeD, asT_b, fAdd_i, fAdd_s, fAdd_t, fAdd_l, fSub_i, fLt_i, fLe_i, fGt_i, fGe_i, fMul_i, fMod_i, fFdiv_i, fPow_i, fNeg_i, fEq_i, fEq_s, fEq_b, fNe_i, fNe_s, fNe_b, fIn_s, fNi_s, fIx_t0, fIx_t1, fIx_t2, fIx_l0, fIx_l1, fSl_s, fSl_t, fSl_l, fLen_t, fLen_l, fInt_i, fAbs_i, fMax_i, fMin_i, fTuple_t, fTuple_l, fList_t, fList_l, fRepS_s, seqOf_t, seqOf_l, truD_b, truD_t, truD_l, kTup_t, fIsN_n, fIsi_non_int, fIsi_non_bool, fIsi_non_str, fIsi_non_tuple, fIsi_non_list, fIsi_bl_int, fIsi_bl_bool, fIsi_bl_str, fIsi_bl_tuple, fIsi_bl_list, fIsi_int_int, fIsi_int_bool, fIsi_int_str, fIsi_int_tuple, fIsi_int_list, fIsi_str_int, fIsi_str_bool, fIsi_str_str, fIsi_str_tuple, fIsi_str_list, fIsi_tup_int, fIsi_tup_bool, fIsi_tup_str, fIsi_tup_tuple, fIsi_tup_list, fIsi_lst_int, fIsi_lst_bool, fIsi_lst_str, fIsi_lst_tuple, fIsi_lst_list, isN, fIx_sy0, fIx_sy1, ite_tt, ite_ff]
    refine ⟨_, rfl, r1, by omega, ?_⟩
    simp only [aSeq, aSet, aC, aVar, aOp, aTest, aTru, aAnd, aOr, aNot, aAndV, aOrV, aNotV, aIfE, aNil, aCons, aTup, aLst, aLstB, aUn, aCa, aSl, aNo, aPart, aM, aML, aRet, aRetN, aIf, aDo, aNext, aCont, aBrk, aAsg, aCall, aCallX, aMeth, aFld, aSetFld, aFldAug, aAug, aRaise, aMake, aYes, kName, kCons, kNil, kSub, nth, put, wipeD, asT_b, fAdd_i, fAdd_s, fAdd_t, fAdd_l, fSub_i, fLt_i, fLe_i, fGt_i, fGe_i, fMul_i, fMod_i, fFdiv_i, fPow_i, fNeg_i, fEq_i, fEq_s, fEq_b, fNe_i, fNe_s, fNe_b, fIn_s, fNi_s, fIx_t0, fIx_t1, fIx_t2, fIx_l0, fIx_l1, fSl_s, fSl_t, fSl_l, fLen_t, fLen_l, fInt_i, fAbs_i, fMax_i, fMin_i, fTuple_t, fTuple_l, fList_t, fList_l, fRepS_s, seqOf_t, seqOf_l, truD_b, truD_t, truD_l, kTup_t, fIsN_n, fIsi_non_int, fIsi_non_bool, fIsi_non_str, fIsi_non_tuple, fIsi_non_list, fIsi_bl_int, fIsi_bl_bool, fIsi_bl_str, fIsi_bl_tuple, fIsi_bl_list, fIsi_int_int, fIsi_int_bool, fIsi_int_str, fIsi_int_tuple, fIsi_int_list, fIsi_str_int, fIsi_str_bool, fIsi_str_str, fIsi_str_tuple, fIsi_str_list, fIsi_tup_int, fIsi_tup_bool, fIsi_tup_str, fIsi_tup_tuple, fIsi_tup_list, fIsi_lst_int, fIsi_lst_bool, fIsi_lst_str, fIsi_lst_tuple, fIsi_lst_list, isN, fIx_sy0, fIx_sy1, ite_tt, ite_ff, truD_b, Bool.not_true, Bool.false_eq_true, reduceIte]
    cases e : rdm h t 0 [] [] 0 with
    | err k =>
      have e0 : decide (Str.ofString "raised" = Str.ofString "told") = false := by decide
      simp only [resD]
      simp only [aSeq, aSet, aC, aVar, aOp, aTest, aTru, aAnd, aOr, aNot, aAndV, aOrV, aNotV, aIfE, aNil, aCons, aTup, aLst, aLstB, aUn, aCa, aSl, aNo, aPart, aM, aML, aRet, aRetN, aIf, aDo, aNext, aCont, aBrk, aAsg, aCall, aCallX, aMeth, aFld, aSetFld, aFldAug, aAug, aRaise, aMake, aYes, kName, kCons, kNil, kSub, nth, put, wipeD, asT_b, fAdd_i, fAdd_s, fAdd_t, fAdd_l, fSub_i, fLt_i, fLe_i, fGt_i, fGe_i, fMul_i, fMod_i, fFdiv_i, fPow_i, fNeg_i, fEq_i, fEq_s, fEq_b, fNe_i, fNe_s, fNe_b, fIn_s, fNi_s, fIx_t0, fIx_t1, fIx_t2, fIx_l0, fIx_l1, fSl_s, fSl_t, fSl_l, fLen_t, fLen_l, fInt_i, fAbs_i, fMax_i, fMin_i, fTuple_t, fTuple_l, fList_t, fList_l, fRepS_s, seqOf_t, seqOf_l, truD_b, truD_t, truD_l, kTup_t, fIsN_n, fIsi_non_int, fIsi_non_bool, fIsi_non_str, fIsi_non_tuple, fIsi_non_list, fIsi_bl_int, fIsi_bl_bool, fIsi_bl_str, fIsi_bl_tuple, fIsi_bl_list, fIsi_int_int, fIsi_int_bool, fIsi_int_str, fIsi_int_tuple, fIsi_int_list, fIsi_str_int, fIsi_str_bool, fIsi_str_str, fIsi_str_tuple, fIsi_str_list, fIsi_tup_int, fIsi_tup_bool, fIsi_tup_str, fIsi_tup_tuple, fIsi_tup_list, fIsi_lst_int, fIsi_lst_bool, fIsi_lst_str, fIsi_lst_tuple, fIsi_lst_list, isN, fIx_sy0, fIx_sy1, ite_tt, ite_ff, e0, Bool.false_eq_true, reduceIte]
      exact ⟨⟨_, _, _, rfl⟩, trivial⟩
    | ok F =>
      have e0 : decide (Str.ofString "told" = Str.ofString "told") = true := by decide
      simp only [resD]
      simp only [aSeq, aSet, aC, aVar, aOp, aTest, aTru, aAnd, aOr, aNot, aAndV, aOrV, aNotV, aIfE, aNil, aCons, aTup, aLst, aLstB, aUn, aCa, aSl, aNo, aPart, aM, aML, aRet, aRetN, aIf, aDo, aNext, aCont, aBrk, aAsg, aCall, aCallX, aMeth, aFld, aSetFld, aFldAug, aAug, aRaise, aMake, aYes, kName, kCons, kNil, kSub, nth, put, wipeD, asT_b, fAdd_i, fAdd_s, fAdd_t, fAdd_l, fSub_i, fLt_i, fLe_i, fGt_i, fGe_i, fMul_i, fMod_i, fFdiv_i, fPow_i, fNeg_i, fEq_i, fEq_s, fEq_b, fNe_i, fNe_s, fNe_b, fIn_s, fNi_s, fIx_t0, fIx_t1, fIx_t2, fIx_l0, fIx_l1, fSl_s, fSl_t, fSl_l, fLen_t, fLen_l, fInt_i, fAbs_i, fMax_i, fMin_i, fTuple_t, fTuple_l, fList_t, fList_l, fRepS_s, seqOf_t, seqOf_l, truD_b, truD_t, truD_l, kTup_t, fIsN_n, fIsi_non_int, fIsi_non_bool, fIsi_non_str, fIsi_non_tuple, fIsi_non_list, fIsi_bl_int, fIsi_bl_bool, fIsi_bl_str, fIsi_bl_tuple, fIsi_bl_list, fIsi_int_int, fIsi_int_bool, fIsi_int_str, fIsi_int_tuple, fIsi_int_list, fIsi_str_int, fIsi_str_bool, fIsi_str_str, fIsi_str_tuple, fIsi_str_list, fIsi_tup_int, fIsi_tup_bool, fIsi_tup_str, fIsi_tup_tuple, fIsi_tup_list, fIsi_lst_int, fIsi_lst_bool, fIsi_lst_str, fIsi_lst_tuple, fIsi_lst_list, isN, fIx_sy0, fIx_sy1, ite_tt, ite_ff, e0, reduceIte]
      have ht := rdm_shown e
      refine ⟨F, rfl, rdm_ne t 0 [] [] 0 (fun _ z => by cases z) e, by rw [← ht]; exact hl, ?_⟩
      rw [← ht]
      refine ⟨_, rfl, rfl, by show 1 ≤ 90000; decide, ?_⟩
      simp only [aSeq, aSet, aC, aVar, aOp, aTest, aTru, aAnd, aOr, aNot, aAndV, aOrV, aNotV, aIfE, aNil, aCons, aTup, aLst, aLstB, aUn, aCa, aSl, aNo, aPart, aM, aML, aRet, aRetN, aIf, aDo, aNext, aCont, aBrk, aAsg, aCall, aCallX, aMeth, aFld, aSetFld, aFldAug, aAug, aRaise, aMake, aYes, kName, kCons, kNil, kSub, nth, put, wipeD, asT_b, fAdd_i, fAdd_s, fAdd_t, fAdd_l, fSub_i, fLt_i, fLe_i, fGt_i, fGe_i, fMul_i, fMod_i, fFdiv_i, fPow_i, fNeg_i, fEq_i, fEq_s, fEq_b, fNe_i, fNe_s, fNe_b, fIn_s, fNi_s, fIx_t0, fIx_t1, fIx_t2, fIx_l0, fIx_l1, fSl_s, fSl_t, fSl_l, fLen_t, fLen_l, fInt_i, fAbs_i, fMax_i, fMin_i, fTuple_t, fTuple_l, fList_t, fList_l, fRepS_s, seqOf_t, seqOf_l, truD_b, truD_t, truD_l, kTup_t, fIsN_n, fIsi_non_int, fIsi_non_bool, fIsi_non_str, fIsi_non_tuple, fIsi_non_list, fIsi_bl_int, fIsi_bl_bool, fIsi_bl_str, fIsi_bl_tuple, fIsi_bl_list, fIsi_int_int, fIsi_int_bool, fIsi_int_str, fIsi_int_tuple, fIsi_int_list, fIsi_str_int, fIsi_str_bool, fIsi_str_str, fIsi_str_tuple, fIsi_str_list, fIsi_tup_int, fIsi_tup_bool, fIsi_tup_str, fIsi_tup_tuple, fIsi_tup_list, fIsi_lst_int, fIsi_lst_bool, fIsi_lst_str, fIsi_lst_tuple, fIsi_lst_list, isN, fIx_sy0, fIx_sy1, ite_tt, ite_ff, truD_b, Bool.not_true, Bool.false_eq_true, reduceIte]
      exact ⟨⟨_, _, _, rfl⟩, trivial⟩
  · rintro g m' ⟨⟨a, b, c, rfl⟩, rfl⟩
    exact fzE.of hq
end AL
set_option maxHeartbeats 4000000
namespace AL
open PySem L2 Evl
variable {K : PySem.W.Frag}
theorem atI_mem {α : Type} {xs : List α} {i : Int} (h0 : 0 ≤ i) (h1 : i < (xs.length : Int)) : ∃ d, atI xs i = some d ∧ d ∈ xs := by
  have hl : i.toNat < xs.length := by omega
  exact ⟨xs[i.toNat], atI_i (i := i.toNat) (by omega) (List.getElem?_eq_getElem hl), List.getElem_mem hl⟩
/-! ### a piece made a hole -/
def holS : Sy := ⟨[63], 0⟩
theorem fSl_row {r : List Sy} {lo hi : Option Int} {m : Mu} {P : PD} : fSl (rowD r) lo hi m P = P (.tup (cutD (r.map syD) lo hi)) m := rfl
theorem cutD_z {xs : List D} {b : Nat} : cutD xs none (some (b : Int)) = xs.take b := by
  unfold cutD
  rw [HT.sIx_nat, HT.sIx_none, List.drop_zero, Nat.sub_zero]
  rcases Nat.le_total b xs.length with hb | hb
  · rw [Nat.min_eq_left hb]
  · rw [Nat.min_eq_right hb, List.take_of_length_le (Nat.le_refl _), List.take_of_length_le hb]
theorem cutD_n {xs : List D} {a : Nat} : cutD xs (some (a : Int)) none = xs.drop a := by
  unfold cutD
  rw [HT.sIx_nat, HT.sIx_none]
  by_cases h : a ≤ xs.length
  · rw [Nat.min_eq_left h, List.take_of_length_le (by rw [List.length_drop]; exact Nat.le_refl _)]
  · rw [Nat.min_eq_right (by omega), List.drop_eq_nil_of_le (Nat.le_refl _), List.drop_eq_nil_of_le (by omega)]
    simp
def masked (r : List Sy) (k : Nat) : List Sy := r.take k ++ [holS] ++ r.drop (k + far (r.drop k) 1)
def sp_law_masked : ASp := fun ds m P _ => ∃ (c s : Addr) (r : List Sy), ds = [tapeD c s, rowD r] ∧ TapeIn m c s ∧ whole r ∧ r.length ≤ 1000 ∧ ∀ k m', k < r.length → Tp c s m m' → P (rowD (masked r k)) m'
theorem rd_law_masked : ∀ ds m Q W, sp_law_masked ds m Q W → b_law_masked sp_law_far sp_law_pick W { nx := fun _ m' => fzE K Q .non m', rt := fzE K Q } (ds.map some ++ List.replicate (N_law_masked.length - ds.length) none) m := by
  rintro ds m Q W ⟨c, s, r, rfl, tp, hw, hr, hq⟩
  change b_law_masked sp_law_far sp_law_pick W _ [some (tapeD c s), some (rowD r), none] m
  unfold b_law_masked
  have hpos : 0 < r.length := by
    cases r with
    | nil => cases hw
    | cons => simp
  simp only [aSeq, aSet, aC, aVar, aOp, aTest, aTru, aAnd, aOr, aNot, aAndV, aOrV, aNotV, aIfE, aNil, aCons, aTup, aLst, aLstB, aUn, aCa, aSl, aNo, aPart, aM, aML, aRet, aRetN, aIf, aDo, aNext, aCont, aBrk, aAsg, aCall, aCallX, aMeth, aFld, aSetFld, aFldAug, aAug, aRaise, aMake, aYes, kName, kCons, kNil, kSub, nth, put, wipeD, asT_b, fAdd_i, fAdd_s, fAdd_t, fAdd_l, fSub_i, fLt_i, fLe_i, fGt_i, fGe_i, fMul_i, fMod_i, fFdiv_i, fPow_i, fNeg_i, fEq_i, fEq_s, fEq_b, fNe_i, fNe_s, fNe_b, fIn_s, fNi_s, fIx_t0, fIx_t1, fIx_t2, fIx_l0, fIx_l1, fSl_s, fSl_t, fSl_l, fLen_t, fLen_l, fInt_i, fAbs_i, fMax_i, fMin_i, fTuple_t, fTuple_l, fList_t, fList_l, fRepS_s, seqOf_t, seqOf_l, truD_b, truD_t, truD_l, kTup_t, fIsN_n, fIsi_non_int, fIsi_non_bool, fIsi_non_str, fIsi_non_tuple, fIsi_non_list, fIsi_bl_int, fIsi_bl_bool, fIsi_bl_str, fIsi_bl_tuple, fIsi_bl_list, fIsi_int_int, fIsi_int_bool, fIsi_int_str, fIsi_int_tuple, fIsi_int_list, fIsi_str_int, fIsi_str_bool, fIsi_str_str, fIsi_str_tuple, fIsi_str_list, fIsi_tup_int, fIsi_tup_bool, fIsi_tup_str, fIsi_tup_tuple, fIsi_tup_list, fIsi_lst_int, fIsi_lst_bool, fIsi_lst_str, fIsi_lst_tuple, fIsi_lst_list, isN, fIx_sy0, fIx_sy1, ite_tt, ite_ff, fLen_row]
  refine ⟨c, s, r.length, rfl, tp, by omega, by omega, fun i m1 h0 h1 t1 => ?_⟩
  obtain ⟨k, rfl⟩ := nn_of h0
  simp only [aSeq, aSet, aC, aVar, aOp, aTest, aTru, aAnd, aOr, aNot, aAndV, aOrV, aNotV, aIfE, aNil, aCons, aTup, aLst, aLstB, aUn, aCa, aSl, aNo, aPart, aM, aML, aRet, aRetN, aIf, aDo, aNext, aCont, aBrk, aAsg, aCall, aCallX, aMeth, aFld, aSetFld, aFldAug, aAug, aRaise, aMake, aYes, kName, kCons, kNil, kSub, nth, put, wipeD, asT_b, fAdd_i, fAdd_s, fAdd_t, fAdd_l, fSub_i, fLt_i, fLe_i, fGt_i, fGe_i, fMul_i, fMod_i, fFdiv_i, fPow_i, fNeg_i, fEq_i, fEq_s, fEq_b, fNe_i, fNe_s, fNe_b, fIn_s, fNi_s, fIx_t0, fIx_t1, fIx_t2, fIx_l0, fIx_l1, fSl_s, fSl_t, fSl_l, fLen_t, fLen_l, fInt_i, fAbs_i, fMax_i, fMin_i, fTuple_t, fTuple_l, fList_t, fList_l, fRepS_s, seqOf_t, seqOf_l, truD_b, truD_t, truD_l, kTup_t, fIsN_n, fIsi_non_int, fIsi_non_bool, fIsi_non_str, fIsi_non_tuple, fIsi_non_list, fIsi_bl_int, fIsi_bl_bool, fIsi_bl_str, fIsi_bl_tuple, fIsi_bl_list, fIsi_int_int, fIsi_int_bool, fIsi_int_str, fIsi_int_tuple, fIsi_int_list, fIsi_str_int, fIsi_str_bool, fIsi_str_str, fIsi_str_tuple, fIsi_str_list, fIsi_tup_int, fIsi_tup_bool, fIsi_tup_str, fIsi_tup_tuple, fIsi_tup_list, fIsi_lst_int, fIsi_lst_bool, fIsi_lst_str, fIsi_lst_tuple, fIsi_lst_list, isN, fIx_sy0, fIx_sy1, ite_tt, ite_ff, fSl_row, cutD_z]
  refine ⟨by decide, by decide, ?_, r, k, rfl, hr, whole_piece hw (by omega), ?_⟩
  · rw [List.length_take, List.length_map]
    show _ + 1 ≤ _
    omega
  simp only [aSeq, aSet, aC, aVar, aOp, aTest, aTru, aAnd, aOr, aNot, aAndV, aOrV, aNotV, aIfE, aNil, aCons, aTup, aLst, aLstB, aUn, aCa, aSl, aNo, aPart, aM, aML, aRet, aRetN, aIf, aDo, aNext, aCont, aBrk, aAsg, aCall, aCallX, aMeth, aFld, aSetFld, aFldAug, aAug, aRaise, aMake, aYes, kName, kCons, kNil, kSub, nth, put, wipeD, asT_b, fAdd_i, fAdd_s, fAdd_t, fAdd_l, fSub_i, fLt_i, fLe_i, fGt_i, fGe_i, fMul_i, fMod_i, fFdiv_i, fPow_i, fNeg_i, fEq_i, fEq_s, fEq_b, fNe_i, fNe_s, fNe_b, fIn_s, fNi_s, fIx_t0, fIx_t1, fIx_t2, fIx_l0, fIx_l1, fSl_s, fSl_t, fSl_l, fLen_t, fLen_l, fInt_i, fAbs_i, fMax_i, fMin_i, fTuple_t, fTuple_l, fList_t, fList_l, fRepS_s, seqOf_t, seqOf_l, truD_b, truD_t, truD_l, kTup_t, fIsN_n, fIsi_non_int, fIsi_non_bool, fIsi_non_str, fIsi_non_tuple, fIsi_non_list, fIsi_bl_int, fIsi_bl_bool, fIsi_bl_str, fIsi_bl_tuple, fIsi_bl_list, fIsi_int_int, fIsi_int_bool, fIsi_int_str, fIsi_int_tuple, fIsi_int_list, fIsi_str_int, fIsi_str_bool, fIsi_str_str, fIsi_str_tuple, fIsi_str_list, fIsi_tup_int, fIsi_tup_bool, fIsi_tup_str, fIsi_tup_tuple, fIsi_tup_list, fIsi_lst_int, fIsi_lst_bool, fIsi_lst_str, fIsi_lst_tuple, fIsi_lst_list, isN, fIx_sy0, fIx_sy1, ite_tt, ite_ff, fSl_row, cutD_n]
  refine ⟨?_, ?_⟩
  · rw [List.length_append, List.length_take, List.length_drop, List.length_map]
    show _ + 1 + _ ≤ _
    omega
  · have e : (r.map syD).take k ++ [.tup [.str "?", .int 0]] ++ (r.map syD).drop (k + far (r.drop k) 1) = (masked r k).map syD := by
      unfold masked
      rw [List.map_append, List.map_append, List.map_take, List.map_drop]
      rfl
    rw [e]
    exact fzE.of (hq k m1 (by omega) t1)
/-! ### a text turned -/
def sp_law_turned : ASp := fun ds m P _ => ∃ (c s : Addr) (z : Str), ds = [tapeD c s, .str z] ∧ TapeIn m c s ∧ z.length ≤ 10000 ∧ ∀ z' m', z'.length ≤ 4 * z.length + 1 → Tp c s m m' → P (.str z') m'
theorem rd_law_turned : ∀ ds m Q W, sp_law_turned ds m Q W → b_law_turned sp_law_pick W { nx := fun _ m' => fzE K Q .non m', rt := fzE K Q } (ds.map some ++ List.replicate (N_law_turned.length - ds.length) none) m := by
  rintro ds m Q W ⟨c, s, z, rfl, tp, hl, hq⟩
  change b_law_turned sp_law_pick W _ [some (tapeD c s), some (.str z), none, none, none, none] m
  unfold b_law_turned
  have hsl : (Str.ofString "az09-.?(),(),()?A_{[/:+ q").length = 25 := by decide
  simp only [aSeq, aSet, aC, aVar, aOp, aTest, aTru, aAnd, aOr, aNot, aAndV, aOrV, aNotV, aIfE, aNil, aCons, aTup, aLst, aLstB, aUn, aCa, aSl, aNo, aPart, aM, aML, aRet, aRetN, aIf, aDo, aNext, aCont, aBrk, aAsg, aCall, aCallX, aMeth, aFld, aSetFld, aFldAug, aAug, aRaise, aMake, aYes, kName, kCons, kNil, kSub, nth, put, wipeD, asT_b, fAdd_i, fAdd_s, fAdd_t, fAdd_l, fSub_i, fLt_i, fLe_i, fGt_i, fGe_i, fMul_i, fMod_i, fFdiv_i, fPow_i, fNeg_i, fEq_i, fEq_s, fEq_b, fNe_i, fNe_s, fNe_b, fIn_s, fNi_s, fIx_t0, fIx_t1, fIx_t2, fIx_l0, fIx_l1, fSl_s, fSl_t, fSl_l, fLen_t, fLen_l, fInt_i, fAbs_i, fMax_i, fMin_i, fTuple_t, fTuple_l, fList_t, fList_l, fRepS_s, seqOf_t, seqOf_l, truD_b, truD_t, truD_l, kTup_t, fIsN_n, fIsi_non_int, fIsi_non_bool, fIsi_non_str, fIsi_non_tuple, fIsi_non_list, fIsi_bl_int, fIsi_bl_bool, fIsi_bl_str, fIsi_bl_tuple, fIsi_bl_list, fIsi_int_int, fIsi_int_bool, fIsi_int_str, fIsi_int_tuple, fIsi_int_list, fIsi_str_int, fIsi_str_bool, fIsi_str_str, fIsi_str_tuple, fIsi_str_list, fIsi_tup_int, fIsi_tup_bool, fIsi_tup_str, fIsi_tup_tuple, fIsi_tup_list, fIsi_lst_int, fIsi_lst_bool, fIsi_lst_str, fIsi_lst_tuple, fIsi_lst_list, isN, fIx_sy0, fIx_sy1, ite_tt, ite_ff, fLen_s (show z.length ≤ 1000000 by omega), fLen_s (show (Str.ofString "az09-.?(),(),()?A_{[/:+ q").length ≤ 1000000 by decide), hsl]
  refine ⟨c, s, (z.length : Int) + 1, rfl, tp, by omega, by omega, fun i m1 h0 h1 t1 => ?_⟩
  refine ⟨c, s, 25, rfl, t1.tp, by decide, by decide, fun j m2 j0 j1 t2 => ?_⟩
  obtain ⟨d, hd, _⟩ := atI_mem (xs := (Str.ofString "az09-.?(),(),()?A_{[/:+ q").cps.toList) (i := j) j0 (by rw [str_len, hsl]; omega)
  simp only [aSeq, aSet, aC, aVar, aOp, aTest, aTru, aAnd, aOr, aNot, aAndV, aOrV, aNotV, aIfE, aNil, aCons, aTup, aLst, aLstB, aUn, aCa, aSl, aNo, aPart, aM, aML, aRet, aRetN, aIf, aDo, aNext, aCont, aBrk, aAsg, aCall, aCallX, aMeth, aFld, aSetFld, aFldAug, aAug, aRaise, aMake, aYes, kName, kCons, kNil, kSub, nth, put, wipeD, asT_b, fAdd_i, fAdd_s, fAdd_t, fAdd_l, fSub_i, fLt_i, fLe_i, fGt_i, fGe_i, fMul_i, fMod_i, fFdiv_i, fPow_i, fNeg_i, fEq_i, fEq_s, fEq_b, fNe_i, fNe_s, fNe_b, fIn_s, fNi_s, fIx_t0, fIx_t1, fIx_t2, fIx_l0, fIx_l1, fSl_s, fSl_t, fSl_l, fLen_t, fLen_l, fInt_i, fAbs_i, fMax_i, fMin_i, fTuple_t, fTuple_l, fList_t, fList_l, fRepS_s, seqOf_t, seqOf_l, truD_b, truD_t, truD_l, kTup_t, fIsN_n, fIsi_non_int, fIsi_non_bool, fIsi_non_str, fIsi_non_tuple, fIsi_non_list, fIsi_bl_int, fIsi_bl_bool, fIsi_bl_str, fIsi_bl_tuple, fIsi_bl_list, fIsi_int_int, fIsi_int_bool, fIsi_int_str, fIsi_int_tuple, fIsi_int_list, fIsi_str_int, fIsi_str_bool, fIsi_str_str, fIsi_str_tuple, fIsi_str_list, fIsi_tup_int, fIsi_tup_bool, fIsi_tup_str, fIsi_tup_tuple, fIsi_tup_list, fIsi_lst_int, fIsi_lst_bool, fIsi_lst_str, fIsi_lst_tuple, fIsi_lst_list, isN, fIx_sy0, fIx_sy1, ite_tt, ite_ff, fIx_s (show (Str.ofString "az09-.?(),(),()?A_{[/:+ q").length ≤ 1000000 by decide) hd]
  refine ⟨c, s, 8, rfl, t2.tp, by decide, by decide, fun w m3 w0 w1 t3 => ?_⟩
  have t123 := (t1.trans t2).trans t3
  have hd1 : (⟨#[d]⟩ : Str).length = 1 := rfl
  have c1 := cutS_length z none (some i)
  have c2 := cutS_length z (some i) none
  have c3 := cutS_length z (some (i + 1)) none
  have c4 := cutS_length z (some i) (some (i + 1))
  have c5 := cutS_length z (some (i + 1)) (some (i + 2))
  have c6 := cutS_length z (some (i + 2)) none
  have fin : ∀ z' : Str, z'.length ≤ 4 * z.length + 1 → fzE K Q (.str z') m3 := fun z' hz => fzE.of (hq z' m3 hz t123)
  have hz1 : z.length ≤ 1000000 := by omega
  refine cut_plain ?_
  simp only [aSeq, aSet, aC, aVar, aOp, aTest, aTru, aAnd, aOr, aNot, aAndV, aOrV, aNotV, aIfE, aNil, aCons, aTup, aLst, aLstB, aUn, aCa, aSl, aNo, aPart, aM, aML, aRet, aRetN, aIf, aDo, aNext, aCont, aBrk, aAsg, aCall, aCallX, aMeth, aFld, aSetFld, aFldAug, aAug, aRaise, aMake, aYes, kName, kCons, kNil, kSub, nth, put, wipeD, asT_b, fAdd_i, fAdd_s, fAdd_t, fAdd_l, fSub_i, fLt_i, fLe_i, fGt_i, fGe_i, fMul_i, fMod_i, fFdiv_i, fPow_i, fNeg_i, fEq_i, fEq_s, fEq_b, fNe_i, fNe_s, fNe_b, fIn_s, fNi_s, fIx_t0, fIx_t1, fIx_t2, fIx_l0, fIx_l1, fSl_s, fSl_t, fSl_l, fLen_t, fLen_l, fInt_i, fAbs_i, fMax_i, fMin_i, fTuple_t, fTuple_l, fList_t, fList_l, fRepS_s, seqOf_t, seqOf_l, truD_b, truD_t, truD_l, kTup_t, fIsN_n, fIsi_non_int, fIsi_non_bool, fIsi_non_str, fIsi_non_tuple, fIsi_non_list, fIsi_bl_int, fIsi_bl_bool, fIsi_bl_str, fIsi_bl_tuple, fIsi_bl_list, fIsi_int_int, fIsi_int_bool, fIsi_int_str, fIsi_int_tuple, fIsi_int_list, fIsi_str_int, fIsi_str_bool, fIsi_str_str, fIsi_str_tuple, fIsi_str_list, fIsi_tup_int, fIsi_tup_bool, fIsi_tup_str, fIsi_tup_tuple, fIsi_tup_list, fIsi_lst_int, fIsi_lst_bool, fIsi_lst_str, fIsi_lst_tuple, fIsi_lst_list, isN, fIx_sy0, fIx_sy1, ite_tt, ite_ff, hz1, true_and]
  by_cases h : w = 0
  · rw [if_pos (decide_eq_true h)]
    exact ⟨by omega, by rw [str_add]; omega, fin _ (by rw [str_add, str_add]; omega)⟩
  rw [if_neg (by simp [h])]
  refine cut_plain ?_
  simp only [aSeq, aSet, aC, aVar, aOp, aTest, aTru, aAnd, aOr, aNot, aAndV, aOrV, aNotV, aIfE, aNil, aCons, aTup, aLst, aLstB, aUn, aCa, aSl, aNo, aPart, aM, aML, aRet, aRetN, aIf, aDo, aNext, aCont, aBrk, aAsg, aCall, aCallX, aMeth, aFld, aSetFld, aFldAug, aAug, aRaise, aMake, aYes, kName, kCons, kNil, kSub, nth, put, wipeD, asT_b, fAdd_i, fAdd_s, fAdd_t, fAdd_l, fSub_i, fLt_i, fLe_i, fGt_i, fGe_i, fMul_i, fMod_i, fFdiv_i, fPow_i, fNeg_i, fEq_i, fEq_s, fEq_b, fNe_i, fNe_s, fNe_b, fIn_s, fNi_s, fIx_t0, fIx_t1, fIx_t2, fIx_l0, fIx_l1, fSl_s, fSl_t, fSl_l, fLen_t, fLen_l, fInt_i, fAbs_i, fMax_i, fMin_i, fTuple_t, fTuple_l, fList_t, fList_l, fRepS_s, seqOf_t, seqOf_l, truD_b, truD_t, truD_l, kTup_t, fIsN_n, fIsi_non_int, fIsi_non_bool, fIsi_non_str, fIsi_non_tuple, fIsi_non_list, fIsi_bl_int, fIsi_bl_bool, fIsi_bl_str, fIsi_bl_tuple, fIsi_bl_list, fIsi_int_int, fIsi_int_bool, fIsi_int_str, fIsi_int_tuple, fIsi_int_list, fIsi_str_int, fIsi_str_bool, fIsi_str_str, fIsi_str_tuple, fIsi_str_list, fIsi_tup_int, fIsi_tup_bool, fIsi_tup_str, fIsi_tup_tuple, fIsi_tup_list, fIsi_lst_int, fIsi_lst_bool, fIsi_lst_str, fIsi_lst_tuple, fIsi_lst_list, isN, fIx_sy0, fIx_sy1, ite_tt, ite_ff, hz1, true_and]
  by_cases h : w = 1
  · rw [if_pos (decide_eq_true h)]
    exact ⟨by omega, fin _ (by rw [str_add]; omega)⟩
  rw [if_neg (by simp [h])]
  refine cut_plain ?_
  simp only [aSeq, aSet, aC, aVar, aOp, aTest, aTru, aAnd, aOr, aNot, aAndV, aOrV, aNotV, aIfE, aNil, aCons, aTup, aLst, aLstB, aUn, aCa, aSl, aNo, aPart, aM, aML, aRet, aRetN, aIf, aDo, aNext, aCont, aBrk, aAsg, aCall, aCallX, aMeth, aFld, aSetFld, aFldAug, aAug, aRaise, aMake, aYes, kName, kCons, kNil, kSub, nth, put, wipeD, asT_b, fAdd_i, fAdd_s, fAdd_t, fAdd_l, fSub_i, fLt_i, fLe_i, fGt_i, fGe_i, fMul_i, fMod_i, fFdiv_i, fPow_i, fNeg_i, fEq_i, fEq_s, fEq_b, fNe_i, fNe_s, fNe_b, fIn_s, fNi_s, fIx_t0, fIx_t1, fIx_t2, fIx_l0, fIx_l1, fSl_s, fSl_t, fSl_l, fLen_t, fLen_l, fInt_i, fAbs_i, fMax_i, fMin_i, fTuple_t, fTuple_l, fList_t, fList_l, fRepS_s, seqOf_t, seqOf_l, truD_b, truD_t, truD_l, kTup_t, fIsN_n, fIsi_non_int, fIsi_non_bool, fIsi_non_str, fIsi_non_tuple, fIsi_non_list, fIsi_bl_int, fIsi_bl_bool, fIsi_bl_str, fIsi_bl_tuple, fIsi_bl_list, fIsi_int_int, fIsi_int_bool, fIsi_int_str, fIsi_int_tuple, fIsi_int_list, fIsi_str_int, fIsi_str_bool, fIsi_str_str, fIsi_str_tuple, fIsi_str_list, fIsi_tup_int, fIsi_tup_bool, fIsi_tup_str, fIsi_tup_tuple, fIsi_tup_list, fIsi_lst_int, fIsi_lst_bool, fIsi_lst_str, fIsi_lst_tuple, fIsi_lst_list, isN, fIx_sy0, fIx_sy1, ite_tt, ite_ff, hz1, true_and]
  by_cases h : w = 2
  · rw [if_pos (decide_eq_true h)]
    exact fin _ (by omega)
  rw [if_neg (by simp [h])]
  refine cut_plain ?_
  simp only [aSeq, aSet, aC, aVar, aOp, aTest, aTru, aAnd, aOr, aNot, aAndV, aOrV, aNotV, aIfE, aNil, aCons, aTup, aLst, aLstB, aUn, aCa, aSl, aNo, aPart, aM, aML, aRet, aRetN, aIf, aDo, aNext, aCont, aBrk, aAsg, aCall, aCallX, aMeth, aFld, aSetFld, aFldAug, aAug, aRaise, aMake, aYes, kName, kCons, kNil, kSub, nth, put, wipeD, asT_b, fAdd_i, fAdd_s, fAdd_t, fAdd_l, fSub_i, fLt_i, fLe_i, fGt_i, fGe_i, fMul_i, fMod_i, fFdiv_i, fPow_i, fNeg_i, fEq_i, fEq_s, fEq_b, fNe_i, fNe_s, fNe_b, fIn_s, fNi_s, fIx_t0, fIx_t1, fIx_t2, fIx_l0, fIx_l1, fSl_s, fSl_t, fSl_l, fLen_t, fLen_l, fInt_i, fAbs_i, fMax_i, fMin_i, fTuple_t, fTuple_l, fList_t, fList_l, fRepS_s, seqOf_t, seqOf_l, truD_b, truD_t, truD_l, kTup_t, fIsN_n, fIsi_non_int, fIsi_non_bool, fIsi_non_str, fIsi_non_tuple, fIsi_non_list, fIsi_bl_int, fIsi_bl_bool, fIsi_bl_str, fIsi_bl_tuple, fIsi_bl_list, fIsi_int_int, fIsi_int_bool, fIsi_int_str, fIsi_int_tuple, fIsi_int_list, fIsi_str_int, fIsi_str_bool, fIsi_str_str, fIsi_str_tuple, fIsi_str_list, fIsi_tup_int, fIsi_tup_bool, fIsi_tup_str, fIsi_tup_tuple, fIsi_tup_list, fIsi_lst_int, fIsi_lst_bool, fIsi_lst_str, fIsi_lst_tuple, fIsi_lst_list, isN, fIx_sy0, fIx_sy1, ite_tt, ite_ff, hz1, true_and]
  by_cases h : w = 3
  · rw [if_pos (decide_eq_true h)]
    exact ⟨by omega, by rw [str_add]; omega, fin _ (by rw [str_add, str_add]; omega)⟩
  rw [if_neg (by simp [h])]
  refine cut_plain ?_
  simp only [aSeq, aSet, aC, aVar, aOp, aTest, aTru, aAnd, aOr, aNot, aAndV, aOrV, aNotV, aIfE, aNil, aCons, aTup, aLst, aLstB, aUn, aCa, aSl, aNo, aPart, aM, aML, aRet, aRetN, aIf, aDo, aNext, aCont, aBrk, aAsg, aCall, aCallX, aMeth, aFld, aSetFld, aFldAug, aAug, aRaise, aMake, aYes, kName, kCons, kNil, kSub, nth, put, wipeD, asT_b, fAdd_i, fAdd_s, fAdd_t, fAdd_l, fSub_i, fLt_i, fLe_i, fGt_i, fGe_i, fMul_i, fMod_i, fFdiv_i, fPow_i, fNeg_i, fEq_i, fEq_s, fEq_b, fNe_i, fNe_s, fNe_b, fIn_s, fNi_s, fIx_t0, fIx_t1, fIx_t2, fIx_l0, fIx_l1, fSl_s, fSl_t, fSl_l, fLen_t, fLen_l, fInt_i, fAbs_i, fMax_i, fMin_i, fTuple_t, fTuple_l, fList_t, fList_l, fRepS_s, seqOf_t, seqOf_l, truD_b, truD_t, truD_l, kTup_t, fIsN_n, fIsi_non_int, fIsi_non_bool, fIsi_non_str, fIsi_non_tuple, fIsi_non_list, fIsi_bl_int, fIsi_bl_bool, fIsi_bl_str, fIsi_bl_tuple, fIsi_bl_list, fIsi_int_int, fIsi_int_bool, fIsi_int_str, fIsi_int_tuple, fIsi_int_list, fIsi_str_int, fIsi_str_bool, fIsi_str_str, fIsi_str_tuple, fIsi_str_list, fIsi_tup_int, fIsi_tup_bool, fIsi_tup_str, fIsi_tup_tuple, fIsi_tup_list, fIsi_lst_int, fIsi_lst_bool, fIsi_lst_str, fIsi_lst_tuple, fIsi_lst_list, isN, fIx_sy0, fIx_sy1, ite_tt, ite_ff, hz1, true_and]
  by_cases h : w = 4
  · rw [if_pos (decide_eq_true h)]
    exact ⟨by omega, by rw [str_add]; omega, by rw [str_add, str_add]; omega, fin _ (by rw [str_add, str_add, str_add]; omega)⟩
  rw [if_neg (by simp [h])]
  refine cut_plain ?_
  simp only [aSeq, aSet, aC, aVar, aOp, aTest, aTru, aAnd, aOr, aNot, aAndV, aOrV, aNotV, aIfE, aNil, aCons, aTup, aLst, aLstB, aUn, aCa, aSl, aNo, aPart, aM, aML, aRet, aRetN, aIf, aDo, aNext, aCont, aBrk, aAsg, aCall, aCallX, aMeth, aFld, aSetFld, aFldAug, aAug, aRaise, aMake, aYes, kName, kCons, kNil, kSub, nth, put, wipeD, asT_b, fAdd_i, fAdd_s, fAdd_t, fAdd_l, fSub_i, fLt_i, fLe_i, fGt_i, fGe_i, fMul_i, fMod_i, fFdiv_i, fPow_i, fNeg_i, fEq_i, fEq_s, fEq_b, fNe_i, fNe_s, fNe_b, fIn_s, fNi_s, fIx_t0, fIx_t1, fIx_t2, fIx_l0, fIx_l1, fSl_s, fSl_t, fSl_l, fLen_t, fLen_l, fInt_i, fAbs_i, fMax_i, fMin_i, fTuple_t, fTuple_l, fList_t, fList_l, fRepS_s, seqOf_t, seqOf_l, truD_b, truD_t, truD_l, kTup_t, fIsN_n, fIsi_non_int, fIsi_non_bool, fIsi_non_str, fIsi_non_tuple, fIsi_non_list, fIsi_bl_int, fIsi_bl_bool, fIsi_bl_str, fIsi_bl_tuple, fIsi_bl_list, fIsi_int_int, fIsi_int_bool, fIsi_int_str, fIsi_int_tuple, fIsi_int_list, fIsi_str_int, fIsi_str_bool, fIsi_str_str, fIsi_str_tuple, fIsi_str_list, fIsi_tup_int, fIsi_tup_bool, fIsi_tup_str, fIsi_tup_tuple, fIsi_tup_list, fIsi_lst_int, fIsi_lst_bool, fIsi_lst_str, fIsi_lst_tuple, fIsi_lst_list, isN, fIx_sy0, fIx_sy1, ite_tt, ite_ff, hz1, true_and]
  by_cases h : w = 5
  · rw [if_pos (decide_eq_true h)]
    exact ⟨by omega, fin _ (by rw [str_add]; omega)⟩
  rw [if_neg (by simp [h])]
  exact ⟨by omega, by rw [str_add]; omega, fin _ (by rw [str_add, str_add]; omega)⟩
/-! ### texts joined -/
theorem join_len (sep : Str) : ∀ (ys : List Str) (n : Nat), (∀ y ∈ ys, y.length ≤ n) → (Str.join sep ys).length ≤ ys.length * (n + sep.length)
  | [], n, _ => by
    show (0 : Nat) ≤ _
    exact Nat.zero_le _
  | [y], n, h => by
    have := h y (by simp)
    show y.length ≤ 1 * (n + sep.length)
    omega
  | y :: x :: r, n, h => by
    have h1 := h y (by simp)
    have h2 := join_len sep (x :: r) n fun q hq => h q (List.mem_cons_of_mem _ hq)
    show (y ++ sep ++ Str.join sep (x :: r)).length ≤ ((x :: r).length + 1) * (n + sep.length)
    rw [str_add, str_add, Nat.add_mul]
    omega
theorem txt_join_len (sep : Str) (ys : List Str) (n : Nat) (h : ∀ y ∈ ys, y.length ≤ n) : (Txt.join sep ys).length ≤ ys.length * (n + sep.length) := by
  have e : Txt.join sep ys = Str.join sep ys := by
    show PySem.Builtin.Str.glued sep ys = _
    rw [PySem.StrLaws.glued_eq_join]
  rw [e]
  exact join_len sep ys n h
def txtsN (n : Nat) (ds : List D) : Prop := ∀ d ∈ ds, ∃ z : Str, d = .str z ∧ z.length ≤ n
theorem txts_of {n : Nat} : ∀ {ds : List D}, txtsN n ds → ∃ ys, strsOf ds = some ys ∧ ys.length = ds.length ∧ ∀ y ∈ ys, y.length ≤ n
  | [], _ => ⟨[], rfl, rfl, fun _ h => by cases h⟩
  | d :: ds, h => by
    obtain ⟨z, rfl, hz⟩ := h d (by simp)
    obtain ⟨ys, h1, h2, h3⟩ := txts_of (ds := ds) fun q hq => h q (List.mem_cons_of_mem _ hq)
    refine ⟨z :: ys, ?_, by simp [h2], fun y hy => ?_⟩
    · show (match strOf (.str z) with
        | some z => (match strsOf ds with
          | some zs => some (z :: zs)
          | none => none)
        | none => none) = _
      rw [h1]
      rfl
    · rcases List.mem_cons.mp hy with rfl | hy
      · exact hz
      · exact h3 y hy
theorem sum_le {n : Nat} : ∀ {ys : List Str}, (∀ y ∈ ys, y.length ≤ n) → (ys.map (·.length)).sum ≤ ys.length * n
  | [], _ => Nat.zero_le _
  | y :: ys, h => by
    have h1 := h y (by simp)
    have h2 := sum_le (ys := ys) fun q hq => h q (List.mem_cons_of_mem _ hq)
    rw [List.map_cons, List.sum_cons, List.length_cons, Nat.add_mul]
    omega
theorem fJoin_ok {sep : Str} {m : Mu} {x : D} {ds : List D} {n k : Nat} {P : PD} (hx : seqOf m x = some ds) (h : txtsN n ds) (hk : ds.length ≤ k) (hb : k * (n + sep.length) ≤ 1000000) (hp : ∀ z : Str, z.length ≤ k * (n + sep.length) → P (.str z) m) : fJoin (.str sep) x m P := by
  obtain ⟨ys, h1, h2, h3⟩ := txts_of h
  simp only [fJoin, hx, h1]
  have hle : ys.length * (n + sep.length) ≤ k * (n + sep.length) := Nat.mul_le_mul_right _ (by omega)
  refine ⟨?_, hp _ (Nat.le_trans (txt_join_len sep ys n h3) hle)⟩
  have := sum_le h3
  rw [Nat.mul_add] at hle
  have hb2 := hb
  rw [Nat.mul_add] at hb2
  omega
end AL
set_option maxHeartbeats 4000000
namespace AL
open PySem L2 Evl
variable {K : PySem.W.Frag}
theorem ds_len (z : Str) (n : Nat) (h : z.length ≤ n := by decide) : ∃ w : Str, D.str z = .str w ∧ w.length ≤ n := ⟨z, rfl, h⟩
theorem cutD_mem {xs : List D} {lo hi : Option Int} {d : D} (h : d ∈ cutD xs lo hi) : d ∈ xs := List.mem_of_mem_drop (List.mem_of_mem_take h)
theorem cutD_len {xs : List D} {lo hi : Option Int} : (cutD xs lo hi).length ≤ xs.length := by
  unfold cutD
  rw [List.length_take, List.length_drop]
  omega
theorem rep_len (z : Str) (n : Int) : (repS z n).length = n.toNat * z.length := repS_len z n
/-! ### texts built -/
def sp_law_built : ASp := fun ds m P _ => ∃ (c s : Addr), ds = [tapeD c s] ∧ TapeIn m c s ∧ ∀ z m', z.length ≤ 2000 → Tp c s m m' → P (.str z) m'
theorem rd_law_built : ∀ ds m Q W, sp_law_built ds m Q W → b_law_built sp_law_pick W { nx := fun _ m' => fzE K Q .non m', rt := fzE K Q } (ds.map some ++ List.replicate (N_law_built.length - ds.length) none) m := by
  rintro ds m Q W ⟨c, s, rfl, tp, hq⟩
  change b_law_built sp_law_pick W _ [some (tapeD c s), none, none, none, none, none, none, none] m
  unfold b_law_built
  refine cut_plain ?_
  simp only [aSeq, aSet, aC, aVar, aOp, aTest, aTru, aAnd, aOr, aNot, aAndV, aOrV, aNotV, aIfE, aNil, aCons, aTup, aLst, aLstB, aUn, aCa, aSl, aNo, aPart, aM, aML, aRet, aRetN, aIf, aDo, aNext, aCont, aBrk, aAsg, aCall, aCallX, aMeth, aFld, aSetFld, aFldAug, aAug, aRaise, aMake, aYes, kName, kCons, kNil, kSub, nth, put, wipeD, asT_b, fAdd_i, fAdd_s, fAdd_t, fAdd_l, fSub_i, fLt_i, fLe_i, fGt_i, fGe_i, fMul_i, fMod_i, fFdiv_i, fPow_i, fNeg_i, fEq_i, fEq_s, fEq_b, fNe_i, fNe_s, fNe_b, fIn_s, fNi_s, fIx_t0, fIx_t1, fIx_t2, fIx_l0, fIx_l1, fSl_s, fSl_t, fSl_l, fLen_t, fLen_l, fInt_i, fAbs_i, fMax_i, fMin_i, fTuple_t, fTuple_l, fList_t, fList_l, fRepS_s, seqOf_t, seqOf_l, truD_b, truD_t, truD_l, kTup_t, fIsN_n, fIsi_non_int, fIsi_non_bool, fIsi_non_str, fIsi_non_tuple, fIsi_non_list, fIsi_bl_int, fIsi_bl_bool, fIsi_bl_str, fIsi_bl_tuple, fIsi_bl_list, fIsi_int_int, fIsi_int_bool, fIsi_int_str, fIsi_int_tuple, fIsi_int_list, fIsi_str_int, fIsi_str_bool, fIsi_str_str, fIsi_str_tuple, fIsi_str_list, fIsi_tup_int, fIsi_tup_bool, fIsi_tup_str, fIsi_tup_tuple, fIsi_tup_list, fIsi_lst_int, fIsi_lst_bool, fIsi_lst_str, fIsi_lst_tuple, fIsi_lst_list, isN, fIx_sy0, fIx_sy1, ite_tt, ite_ff]
  have le : ∀ z : Str, z = Str.ofString "" → z.length = 0 := fun z h => by rw [h]; decide
  refine ⟨fun g' m' => ∃ far : Str, far.length ≤ 19 ∧ g' = [some (tapeD c s), some (.str "abcdefghijklmnopqrstuvwxyz"), some (.str far), none, none, none, none, none] ∧ Tp c s m m', ?_, ?_⟩
  · simp only [aSeq, aSet, aC, aVar, aOp, aTest, aTru, aAnd, aOr, aNot, aAndV, aOrV, aNotV, aIfE, aNil, aCons, aTup, aLst, aLstB, aUn, aCa, aSl, aNo, aPart, aM, aML, aRet, aRetN, aIf, aDo, aNext, aCont, aBrk, aAsg, aCall, aCallX, aMeth, aFld, aSetFld, aFldAug, aAug, aRaise, aMake, aYes, kName, kCons, kNil, kSub, nth, put, wipeD, asT_b, fAdd_i, fAdd_s, fAdd_t, fAdd_l, fSub_i, fLt_i, fLe_i, fGt_i, fGe_i, fMul_i, fMod_i, fFdiv_i, fPow_i, fNeg_i, fEq_i, fEq_s, fEq_b, fNe_i, fNe_s, fNe_b, fIn_s, fNi_s, fIx_t0, fIx_t1, fIx_t2, fIx_l0, fIx_l1, fSl_s, fSl_t, fSl_l, fLen_t, fLen_l, fInt_i, fAbs_i, fMax_i, fMin_i, fTuple_t, fTuple_l, fList_t, fList_l, fRepS_s, seqOf_t, seqOf_l, truD_b, truD_t, truD_l, kTup_t, fIsN_n, fIsi_non_int, fIsi_non_bool, fIsi_non_str, fIsi_non_tuple, fIsi_non_list, fIsi_bl_int, fIsi_bl_bool, fIsi_bl_str, fIsi_bl_tuple, fIsi_bl_list, fIsi_int_int, fIsi_int_bool, fIsi_int_str, fIsi_int_tuple, fIsi_int_list, fIsi_str_int, fIsi_str_bool, fIsi_str_str, fIsi_str_tuple, fIsi_str_list, fIsi_tup_int, fIsi_tup_bool, fIsi_tup_str, fIsi_tup_tuple, fIsi_tup_list, fIsi_lst_int, fIsi_lst_bool, fIsi_lst_str, fIsi_lst_tuple, fIsi_lst_list, isN, fIx_sy0, fIx_sy1, ite_tt, ite_ff]
    refine ⟨by decide, c, s, 5, rfl, tp, by decide, by decide, fun r1 m1 a1 b1 t1 => ?_⟩
    have l0 : (repS (Str.ofString "c-9") 6).length = 18 := by rw [rep_len]; decide
    have l1 := cutS_length (repS (Str.ofString "c-9") 6) none (some (13 + r1))
    have lb : (Str.ofString "b").length = 1 := by decide
    rw [l0] at l1
    exact ⟨by rw [l0]; decide, by rw [lb]; omega, Str.ofString "b" ++ cutS (repS (Str.ofString "c-9") 6) none (some (13 + r1)), by rw [str_add, lb]; omega, by trivial, t1⟩
  rintro g1 m1 ⟨far, hfar, rfl, t1⟩
  refine ⟨fun g' m' => ∃ sev : Str, sev.length ≤ 30 ∧ g' = [some (tapeD c s), some (.str "abcdefghijklmnopqrstuvwxyz"), some (.str far), some (.str sev), none, none, none, none] ∧ Tp c s m m', ?_, ?_⟩
  · simp only [aSeq, aSet, aC, aVar, aOp, aTest, aTru, aAnd, aOr, aNot, aAndV, aOrV, aNotV, aIfE, aNil, aCons, aTup, aLst, aLstB, aUn, aCa, aSl, aNo, aPart, aM, aML, aRet, aRetN, aIf, aDo, aNext, aCont, aBrk, aAsg, aCall, aCallX, aMeth, aFld, aSetFld, aFldAug, aAug, aRaise, aMake, aYes, kName, kCons, kNil, kSub, nth, put, wipeD, asT_b, fAdd_i, fAdd_s, fAdd_t, fAdd_l, fSub_i, fLt_i, fLe_i, fGt_i, fGe_i, fMul_i, fMod_i, fFdiv_i, fPow_i, fNeg_i, fEq_i, fEq_s, fEq_b, fNe_i, fNe_s, fNe_b, fIn_s, fNi_s, fIx_t0, fIx_t1, fIx_t2, fIx_l0, fIx_l1, fSl_s, fSl_t, fSl_l, fLen_t, fLen_l, fInt_i, fAbs_i, fMax_i, fMin_i, fTuple_t, fTuple_l, fList_t, fList_l, fRepS_s, seqOf_t, seqOf_l, truD_b, truD_t, truD_l, kTup_t, fIsN_n, fIsi_non_int, fIsi_non_bool, fIsi_non_str, fIsi_non_tuple, fIsi_non_list, fIsi_bl_int, fIsi_bl_bool, fIsi_bl_str, fIsi_bl_tuple, fIsi_bl_list, fIsi_int_int, fIsi_int_bool, fIsi_int_str, fIsi_int_tuple, fIsi_int_list, fIsi_str_int, fIsi_str_bool, fIsi_str_str, fIsi_str_tuple, fIsi_str_list, fIsi_tup_int, fIsi_tup_bool, fIsi_tup_str, fIsi_tup_tuple, fIsi_tup_list, fIsi_lst_int, fIsi_lst_bool, fIsi_lst_str, fIsi_lst_tuple, fIsi_lst_list, isN, fIx_sy0, fIx_sy1, ite_tt, ite_ff, aJoin]
    refine ⟨⟨_, rfl⟩, by decide, c, s, 6, rfl, t1.tp, by decide, by decide, fun r2 m2 a2 b2 t2 => ?_⟩
    simp only [aSeq, aSet, aC, aVar, aOp, aTest, aTru, aAnd, aOr, aNot, aAndV, aOrV, aNotV, aIfE, aNil, aCons, aTup, aLst, aLstB, aUn, aCa, aSl, aNo, aPart, aM, aML, aRet, aRetN, aIf, aDo, aNext, aCont, aBrk, aAsg, aCall, aCallX, aMeth, aFld, aSetFld, aFldAug, aAug, aRaise, aMake, aYes, kName, kCons, kNil, kSub, nth, put, wipeD, asT_b, fAdd_i, fAdd_s, fAdd_t, fAdd_l, fSub_i, fLt_i, fLe_i, fGt_i, fGe_i, fMul_i, fMod_i, fFdiv_i, fPow_i, fNeg_i, fEq_i, fEq_s, fEq_b, fNe_i, fNe_s, fNe_b, fIn_s, fNi_s, fIx_t0, fIx_t1, fIx_t2, fIx_l0, fIx_l1, fSl_s, fSl_t, fSl_l, fLen_t, fLen_l, fInt_i, fAbs_i, fMax_i, fMin_i, fTuple_t, fTuple_l, fList_t, fList_l, fRepS_s, seqOf_t, seqOf_l, truD_b, truD_t, truD_l, kTup_t, fIsN_n, fIsi_non_int, fIsi_non_bool, fIsi_non_str, fIsi_non_tuple, fIsi_non_list, fIsi_bl_int, fIsi_bl_bool, fIsi_bl_str, fIsi_bl_tuple, fIsi_bl_list, fIsi_int_int, fIsi_int_bool, fIsi_int_str, fIsi_int_tuple, fIsi_int_list, fIsi_str_int, fIsi_str_bool, fIsi_str_str, fIsi_str_tuple, fIsi_str_list, fIsi_tup_int, fIsi_tup_bool, fIsi_tup_str, fIsi_tup_tuple, fIsi_tup_list, fIsi_lst_int, fIsi_lst_bool, fIsi_lst_str, fIsi_lst_tuple, fIsi_lst_list, isN, fIx_sy0, fIx_sy1, ite_tt, ite_ff]
    refine fJoin_ok (n := 4) (k := 6) seqOf_l ?_ ?_ ?_ ?_
    · intro d hd
      have := cutD_mem hd
      simp only [List.mem_cons, List.not_mem_nil, or_false] at this
      rcases this with rfl | rfl | rfl | rfl | rfl | rfl <;> exact ds_len _ _
    · exact Nat.le_trans cutD_len (by decide)
    · decide
    · intro z hz
      exact ⟨z, Nat.le_trans hz (by decide), by trivial, t1.trans t2⟩
  rintro g2 m2 ⟨sev, hsev, rfl, t2⟩
  refine ⟨fun g' m' => ∃ hd : Str, hd.length ≤ 19 ∧ g' = [some (tapeD c s), some (.str "abcdefghijklmnopqrstuvwxyz"), some (.str far), some (.str sev), some (.str hd), none, none, none] ∧ Tp c s m m', ?_, ?_⟩
  · simp only [aSeq, aSet, aC, aVar, aOp, aTest, aTru, aAnd, aOr, aNot, aAndV, aOrV, aNotV, aIfE, aNil, aCons, aTup, aLst, aLstB, aUn, aCa, aSl, aNo, aPart, aM, aML, aRet, aRetN, aIf, aDo, aNext, aCont, aBrk, aAsg, aCall, aCallX, aMeth, aFld, aSetFld, aFldAug, aAug, aRaise, aMake, aYes, kName, kCons, kNil, kSub, nth, put, wipeD, asT_b, fAdd_i, fAdd_s, fAdd_t, fAdd_l, fSub_i, fLt_i, fLe_i, fGt_i, fGe_i, fMul_i, fMod_i, fFdiv_i, fPow_i, fNeg_i, fEq_i, fEq_s, fEq_b, fNe_i, fNe_s, fNe_b, fIn_s, fNi_s, fIx_t0, fIx_t1, fIx_t2, fIx_l0, fIx_l1, fSl_s, fSl_t, fSl_l, fLen_t, fLen_l, fInt_i, fAbs_i, fMax_i, fMin_i, fTuple_t, fTuple_l, fList_t, fList_l, fRepS_s, seqOf_t, seqOf_l, truD_b, truD_t, truD_l, kTup_t, fIsN_n, fIsi_non_int, fIsi_non_bool, fIsi_non_str, fIsi_non_tuple, fIsi_non_list, fIsi_bl_int, fIsi_bl_bool, fIsi_bl_str, fIsi_bl_tuple, fIsi_bl_list, fIsi_int_int, fIsi_int_bool, fIsi_int_str, fIsi_int_tuple, fIsi_int_list, fIsi_str_int, fIsi_str_bool, fIsi_str_str, fIsi_str_tuple, fIsi_str_list, fIsi_tup_int, fIsi_tup_bool, fIsi_tup_str, fIsi_tup_tuple, fIsi_tup_list, fIsi_lst_int, fIsi_lst_bool, fIsi_lst_str, fIsi_lst_tuple, fIsi_lst_list, isN, fIx_sy0, fIx_sy1, ite_tt, ite_ff]
    refine ⟨by simp, c, s, 7, rfl, t2.tp, by decide, by decide, fun r3 m3 a3 b3 t3 => ?_⟩
    obtain ⟨d, hd, hm⟩ := atI_mem (xs := [D.str "f", .str "g-", .str ".", .str "?", .str "", .str "(", .str far]) a3 b3
    rw [fIx_l hd]
    have : ∃ w : Str, d = .str w ∧ w.length ≤ 19 := by
      simp only [List.mem_cons, List.not_mem_nil, or_false] at hm
      rcases hm with rfl | rfl | rfl | rfl | rfl | rfl | rfl
      all_goals first | exact ⟨far, rfl, hfar⟩ | exact ds_len _ _
    obtain ⟨w, rfl, hw⟩ := this
    exact ⟨w, hw, by trivial, t2.trans t3⟩
  rintro g3 m3 ⟨hd, hhd, rfl, t3⟩
  refine ⟨fun g' m' => ∃ dp : Nat, dp ≤ 150 ∧ g' = [some (tapeD c s), some (.str "abcdefghijklmnopqrstuvwxyz"), some (.str far), some (.str sev), some (.str hd), some (.int (dp : Int)), none, none] ∧ Tp c s m m', ?_, ?_⟩
  · simp only [aSeq, aSet, aC, aVar, aOp, aTest, aTru, aAnd, aOr, aNot, aAndV, aOrV, aNotV, aIfE, aNil, aCons, aTup, aLst, aLstB, aUn, aCa, aSl, aNo, aPart, aM, aML, aRet, aRetN, aIf, aDo, aNext, aCont, aBrk, aAsg, aCall, aCallX, aMeth, aFld, aSetFld, aFldAug, aAug, aRaise, aMake, aYes, kName, kCons, kNil, kSub, nth, put, wipeD, asT_b, fAdd_i, fAdd_s, fAdd_t, fAdd_l, fSub_i, fLt_i, fLe_i, fGt_i, fGe_i, fMul_i, fMod_i, fFdiv_i, fPow_i, fNeg_i, fEq_i, fEq_s, fEq_b, fNe_i, fNe_s, fNe_b, fIn_s, fNi_s, fIx_t0, fIx_t1, fIx_t2, fIx_l0, fIx_l1, fSl_s, fSl_t, fSl_l, fLen_t, fLen_l, fInt_i, fAbs_i, fMax_i, fMin_i, fTuple_t, fTuple_l, fList_t, fList_l, fRepS_s, seqOf_t, seqOf_l, truD_b, truD_t, truD_l, kTup_t, fIsN_n, fIsi_non_int, fIsi_non_bool, fIsi_non_str, fIsi_non_tuple, fIsi_non_list, fIsi_bl_int, fIsi_bl_bool, fIsi_bl_str, fIsi_bl_tuple, fIsi_bl_list, fIsi_int_int, fIsi_int_bool, fIsi_int_str, fIsi_int_tuple, fIsi_int_list, fIsi_str_int, fIsi_str_bool, fIsi_str_str, fIsi_str_tuple, fIsi_str_list, fIsi_tup_int, fIsi_tup_bool, fIsi_tup_str, fIsi_tup_tuple, fIsi_tup_list, fIsi_lst_int, fIsi_lst_bool, fIsi_lst_str, fIsi_lst_tuple, fIsi_lst_list, isN, fIx_sy0, fIx_sy1, ite_tt, ite_ff]
    refine ⟨by decide, c, s, 6, rfl, t3.tp, by decide, by decide, fun r4 m4 a4 b4 t4 => ?_⟩
    obtain ⟨d, hd, hm⟩ := atI_mem (xs := [D.int 0, .int 1, .int 2, .int 9, .int 61, .int 150]) a4 b4
    rw [fIx_l hd]
    have : ∃ w : Nat, d = .int (w : Int) ∧ w ≤ 150 := by
      simp only [List.mem_cons, List.not_mem_nil, or_false] at hm
      rcases hm with rfl | rfl | rfl | rfl | rfl | rfl
      · exact ⟨0, rfl, by decide⟩
      · exact ⟨1, rfl, by decide⟩
      · exact ⟨2, rfl, by decide⟩
      · exact ⟨9, rfl, by decide⟩
      · exact ⟨61, rfl, by decide⟩
      · exact ⟨150, rfl, by decide⟩
    obtain ⟨w, rfl, hw⟩ := this
    exact ⟨w, hw, by trivial, t3.trans t4⟩
  rintro g4 m4 ⟨dp, hdp, rfl, t4⟩
  refine ⟨fun g' m' => ∃ of : Int, -1 ≤ of ∧ of ≤ 1 ∧ g' = [some (tapeD c s), some (.str "abcdefghijklmnopqrstuvwxyz"), some (.str far), some (.str sev), some (.str hd), some (.int (dp : Int)), some (.int of), none] ∧ Tp c s m m', ?_, ?_⟩
  · simp only [aSeq, aSet, aC, aVar, aOp, aTest, aTru, aAnd, aOr, aNot, aAndV, aOrV, aNotV, aIfE, aNil, aCons, aTup, aLst, aLstB, aUn, aCa, aSl, aNo, aPart, aM, aML, aRet, aRetN, aIf, aDo, aNext, aCont, aBrk, aAsg, aCall, aCallX, aMeth, aFld, aSetFld, aFldAug, aAug, aRaise, aMake, aYes, kName, kCons, kNil, kSub, nth, put, wipeD, asT_b, fAdd_i, fAdd_s, fAdd_t, fAdd_l, fSub_i, fLt_i, fLe_i, fGt_i, fGe_i, fMul_i, fMod_i, fFdiv_i, fPow_i, fNeg_i, fEq_i, fEq_s, fEq_b, fNe_i, fNe_s, fNe_b, fIn_s, fNi_s, fIx_t0, fIx_t1, fIx_t2, fIx_l0, fIx_l1, fSl_s, fSl_t, fSl_l, fLen_t, fLen_l, fInt_i, fAbs_i, fMax_i, fMin_i, fTuple_t, fTuple_l, fList_t, fList_l, fRepS_s, seqOf_t, seqOf_l, truD_b, truD_t, truD_l, kTup_t, fIsN_n, fIsi_non_int, fIsi_non_bool, fIsi_non_str, fIsi_non_tuple, fIsi_non_list, fIsi_bl_int, fIsi_bl_bool, fIsi_bl_str, fIsi_bl_tuple, fIsi_bl_list, fIsi_int_int, fIsi_int_bool, fIsi_int_str, fIsi_int_tuple, fIsi_int_list, fIsi_str_int, fIsi_str_bool, fIsi_str_str, fIsi_str_tuple, fIsi_str_list, fIsi_tup_int, fIsi_tup_bool, fIsi_tup_str, fIsi_tup_tuple, fIsi_tup_list, fIsi_lst_int, fIsi_lst_bool, fIsi_lst_str, fIsi_lst_tuple, fIsi_lst_list, isN, fIx_sy0, fIx_sy1, ite_tt, ite_ff]
    refine ⟨by decide, c, s, 4, rfl, t4.tp, by decide, by decide, fun r5 m5 a5 b5 t5 => ?_⟩
    obtain ⟨d, hd, hm⟩ := atI_mem (xs := [D.int 0, .int 0, .int (-1), .int 1]) a5 b5
    rw [fIx_l hd]
    have : ∃ w : Int, d = .int w ∧ -1 ≤ w ∧ w ≤ 1 := by
      simp only [List.mem_cons, List.not_mem_nil, or_false] at hm
      rcases hm with rfl | rfl | rfl | rfl
      · exact ⟨0, rfl, by decide, by decide⟩
      · exact ⟨0, rfl, by decide, by decide⟩
      · exact ⟨-1, rfl, by decide, by decide⟩
      · exact ⟨1, rfl, by decide, by decide⟩
    obtain ⟨w, rfl, hw1, hw2⟩ := this
    exact ⟨w, hw1, hw2, by trivial, t4.trans t5⟩
  rintro g5 m5 ⟨of, ho1, ho2, rfl, t5⟩
  refine ⟨fun g' m' => ∃ L : List D, L.length = 7 ∧ txtsN 2000 L ∧ g' = [some (tapeD c s), some (.str "abcdefghijklmnopqrstuvwxyz"), some (.str far), some (.str sev), some (.str hd), some (.int (dp : Int)), some (.int of), some (.lst L)] ∧ Tp c s m m', ?_, ?_⟩
  · have q1 : (Str.ofString "(").length = 1 := by decide
    have q2 : (Str.ofString ")").length = 1 := by decide
    have q3 : (Str.ofString "()").length = 2 := by decide
    have q4 : (Str.ofString "(,a)").length = 4 := by decide
    have q5 : (Str.ofString "(a,)").length = 4 := by decide
    simp only [aSeq, aSet, aC, aVar, aOp, aTest, aTru, aAnd, aOr, aNot, aAndV, aOrV, aNotV, aIfE, aNil, aCons, aTup, aLst, aLstB, aUn, aCa, aSl, aNo, aPart, aM, aML, aRet, aRetN, aIf, aDo, aNext, aCont, aBrk, aAsg, aCall, aCallX, aMeth, aFld, aSetFld, aFldAug, aAug, aRaise, aMake, aYes, kName, kCons, kNil, kSub, nth, put, wipeD, asT_b, fAdd_i, fAdd_s, fAdd_t, fAdd_l, fSub_i, fLt_i, fLe_i, fGt_i, fGe_i, fMul_i, fMod_i, fFdiv_i, fPow_i, fNeg_i, fEq_i, fEq_s, fEq_b, fNe_i, fNe_s, fNe_b, fIn_s, fNi_s, fIx_t0, fIx_t1, fIx_t2, fIx_l0, fIx_l1, fSl_s, fSl_t, fSl_l, fLen_t, fLen_l, fInt_i, fAbs_i, fMax_i, fMin_i, fTuple_t, fTuple_l, fList_t, fList_l, fRepS_s, seqOf_t, seqOf_l, truD_b, truD_t, truD_l, kTup_t, fIsN_n, fIsi_non_int, fIsi_non_bool, fIsi_non_str, fIsi_non_tuple, fIsi_non_list, fIsi_bl_int, fIsi_bl_bool, fIsi_bl_str, fIsi_bl_tuple, fIsi_bl_list, fIsi_int_int, fIsi_int_bool, fIsi_int_str, fIsi_int_tuple, fIsi_int_list, fIsi_str_int, fIsi_str_bool, fIsi_str_str, fIsi_str_tuple, fIsi_str_list, fIsi_tup_int, fIsi_tup_bool, fIsi_tup_str, fIsi_tup_tuple, fIsi_tup_list, fIsi_lst_int, fIsi_lst_bool, fIsi_lst_str, fIsi_lst_tuple, fIsi_lst_list, isN, fIx_sy0, fIx_sy1, ite_tt, ite_ff, str_add, q1, q2, q3, q4, q5]
    refine ⟨by omega, by omega, by omega, by omega, by omega, by omega, by omega, by omega, by omega, by omega, by simp, _, ?_, ?_, by trivial, t5⟩
    · rfl
    · intro d hd
      simp only [List.mem_cons, List.not_mem_nil, or_false] at hd
      rcases hd with rfl | rfl | rfl | rfl | rfl | rfl | rfl
      all_goals exact ⟨_, rfl, by first | omega | (simp only [str_add, q1, q2, q3, q4, q5]; omega)⟩
  rintro g6 m6 ⟨L, hL, hS, rfl, t6⟩
  refine ⟨fun g' m' => ∃ L : List D, L.length = 9 ∧ txtsN 2000 L ∧ g' = [some (tapeD c s), some (.str "abcdefghijklmnopqrstuvwxyz"), some (.str far), some (.str sev), some (.str hd), some (.int (dp : Int)), some (.int of), some (.lst L)] ∧ Tp c s m m', ?_, ?_⟩
  · have q1 : (Str.ofString "f(").length = 2 := by decide
    have q2 : (Str.ofString ")").length = 1 := by decide
    have q3 : (Str.ofString "g(a,").length = 4 := by decide
    have q4 : (Str.ofString ".").length = 1 := by decide
    have q5 : (Str.ofString "abcdefghijklmnopqrstuvwxyz").length = 26 := by decide
    simp only [aSeq, aSet, aC, aVar, aOp, aTest, aTru, aAnd, aOr, aNot, aAndV, aOrV, aNotV, aIfE, aNil, aCons, aTup, aLst, aLstB, aUn, aCa, aSl, aNo, aPart, aM, aML, aRet, aRetN, aIf, aDo, aNext, aCont, aBrk, aAsg, aCall, aCallX, aMeth, aFld, aSetFld, aFldAug, aAug, aRaise, aMake, aYes, kName, kCons, kNil, kSub, nth, put, wipeD, asT_b, fAdd_i, fAdd_s, fAdd_t, fAdd_l, fSub_i, fLt_i, fLe_i, fGt_i, fGe_i, fMul_i, fMod_i, fFdiv_i, fPow_i, fNeg_i, fEq_i, fEq_s, fEq_b, fNe_i, fNe_s, fNe_b, fIn_s, fNi_s, fIx_t0, fIx_t1, fIx_t2, fIx_l0, fIx_l1, fSl_s, fSl_t, fSl_l, fLen_t, fLen_l, fInt_i, fAbs_i, fMax_i, fMin_i, fTuple_t, fTuple_l, fList_t, fList_l, fRepS_s, seqOf_t, seqOf_l, truD_b, truD_t, truD_l, kTup_t, fIsN_n, fIsi_non_int, fIsi_non_bool, fIsi_non_str, fIsi_non_tuple, fIsi_non_list, fIsi_bl_int, fIsi_bl_bool, fIsi_bl_str, fIsi_bl_tuple, fIsi_bl_list, fIsi_int_int, fIsi_int_bool, fIsi_int_str, fIsi_int_tuple, fIsi_int_list, fIsi_str_int, fIsi_str_bool, fIsi_str_str, fIsi_str_tuple, fIsi_str_list, fIsi_tup_int, fIsi_tup_bool, fIsi_tup_str, fIsi_tup_tuple, fIsi_tup_list, fIsi_lst_int, fIsi_lst_bool, fIsi_lst_str, fIsi_lst_tuple, fIsi_lst_list, isN, fIx_sy0, fIx_sy1, ite_tt, ite_ff, str_add, rep_len, q1, q2, q3, q4]
    refine ⟨⟨by omega, by omega, by omega⟩, c, s, 26, rfl, t6.tp, by decide, by decide, fun r7 m7 a7 b7 t7 => ?_⟩
    obtain ⟨x, hx, _⟩ := atI_mem (xs := (Str.ofString "abcdefghijklmnopqrstuvwxyz").cps.toList) (i := r7) a7 (by rw [str_len, q5]; exact b7)
    have q6 : (⟨#[x]⟩ : Str).length = 1 := rfl
    rw [fIx_s (by rw [q5]; decide) hx]
    simp only [aSeq, aSet, aC, aVar, aOp, aTest, aTru, aAnd, aOr, aNot, aAndV, aOrV, aNotV, aIfE, aNil, aCons, aTup, aLst, aLstB, aUn, aCa, aSl, aNo, aPart, aM, aML, aRet, aRetN, aIf, aDo, aNext, aCont, aBrk, aAsg, aCall, aCallX, aMeth, aFld, aSetFld, aFldAug, aAug, aRaise, aMake, aYes, kName, kCons, kNil, kSub, nth, put, wipeD, asT_b, fAdd_i, fAdd_s, fAdd_t, fAdd_l, fSub_i, fLt_i, fLe_i, fGt_i, fGe_i, fMul_i, fMod_i, fFdiv_i, fPow_i, fNeg_i, fEq_i, fEq_s, fEq_b, fNe_i, fNe_s, fNe_b, fIn_s, fNi_s, fIx_t0, fIx_t1, fIx_t2, fIx_l0, fIx_l1, fSl_s, fSl_t, fSl_l, fLen_t, fLen_l, fInt_i, fAbs_i, fMax_i, fMin_i, fTuple_t, fTuple_l, fList_t, fList_l, fRepS_s, seqOf_t, seqOf_l, truD_b, truD_t, truD_l, kTup_t, fIsN_n, fIsi_non_int, fIsi_non_bool, fIsi_non_str, fIsi_non_tuple, fIsi_non_list, fIsi_bl_int, fIsi_bl_bool, fIsi_bl_str, fIsi_bl_tuple, fIsi_bl_list, fIsi_int_int, fIsi_int_bool, fIsi_int_str, fIsi_int_tuple, fIsi_int_list, fIsi_str_int, fIsi_str_bool, fIsi_str_str, fIsi_str_tuple, fIsi_str_list, fIsi_tup_int, fIsi_tup_bool, fIsi_tup_str, fIsi_tup_tuple, fIsi_tup_list, fIsi_lst_int, fIsi_lst_bool, fIsi_lst_str, fIsi_lst_tuple, fIsi_lst_list, isN, fIx_sy0, fIx_sy1, ite_tt, ite_ff, str_add, rep_len, q1, q2, q3, q4, q6]
    have mx : (if (dp : Int) + of > 0 then (dp : Int) + of else 0) ≤ 151 ∧ 0 ≤ (if (dp : Int) + of > 0 then (dp : Int) + of else 0) := by
      split <;> omega
    generalize (if (dp : Int) + of > 0 then (dp : Int) + of else 0) = mxv at *
    refine ⟨by omega, ⟨by omega, by omega, by omega⟩, by omega, ⟨by omega, by omega, by omega⟩, by omega, ⟨by omega, by omega, by omega⟩, by omega, by simp, by rw [hL]; (show 7 + 2 ≤ 100000; decide), _, ?_, ?_, by trivial, t6.trans t7⟩
    · rw [List.length_append, hL]
      rfl
    · intro d hd
      rcases List.mem_append.mp hd with h | h
      · exact hS d h
      · simp only [List.mem_cons, List.not_mem_nil, or_false] at h
        rcases h with rfl | rfl
        · exact ⟨_, rfl, by simp only [str_add, rep_len, q1, q2, q3, q4, q6]; omega⟩
        · exact ⟨_, rfl, by simp only [str_add, rep_len, q1, q2, q3, q4, q6]; omega⟩
  rintro g7 m7 ⟨L, hL, hS, rfl, t7⟩
  refine ⟨fun g' m' => ∃ L : List D, L.length = 24 ∧ txtsN 2000 L ∧ g' = [some (tapeD c s), some (.str "abcdefghijklmnopqrstuvwxyz"), some (.str far), some (.str sev), some (.str hd), some (.int (dp : Int)), some (.int of), some (.lst L)] ∧ Tp c s m m', ?_, ?_⟩
  · simp only [aSeq, aSet, aC, aVar, aOp, aTest, aTru, aAnd, aOr, aNot, aAndV, aOrV, aNotV, aIfE, aNil, aCons, aTup, aLst, aLstB, aUn, aCa, aSl, aNo, aPart, aM, aML, aRet, aRetN, aIf, aDo, aNext, aCont, aBrk, aAsg, aCall, aCallX, aMeth, aFld, aSetFld, aFldAug, aAug, aRaise, aMake, aYes, kName, kCons, kNil, kSub, nth, put, wipeD, asT_b, fAdd_i, fAdd_s, fAdd_t, fAdd_l, fSub_i, fLt_i, fLe_i, fGt_i, fGe_i, fMul_i, fMod_i, fFdiv_i, fPow_i, fNeg_i, fEq_i, fEq_s, fEq_b, fNe_i, fNe_s, fNe_b, fIn_s, fNi_s, fIx_t0, fIx_t1, fIx_t2, fIx_l0, fIx_l1, fSl_s, fSl_t, fSl_l, fLen_t, fLen_l, fInt_i, fAbs_i, fMax_i, fMin_i, fTuple_t, fTuple_l, fList_t, fList_l, fRepS_s, seqOf_t, seqOf_l, truD_b, truD_t, truD_l, kTup_t, fIsN_n, fIsi_non_int, fIsi_non_bool, fIsi_non_str, fIsi_non_tuple, fIsi_non_list, fIsi_bl_int, fIsi_bl_bool, fIsi_bl_str, fIsi_bl_tuple, fIsi_bl_list, fIsi_int_int, fIsi_int_bool, fIsi_int_str, fIsi_int_tuple, fIsi_int_list, fIsi_str_int, fIsi_str_bool, fIsi_str_str, fIsi_str_tuple, fIsi_str_list, fIsi_tup_int, fIsi_tup_bool, fIsi_tup_str, fIsi_tup_tuple, fIsi_tup_list, fIsi_lst_int, fIsi_lst_bool, fIsi_lst_str, fIsi_lst_tuple, fIsi_lst_list, isN, fIx_sy0, fIx_sy1, ite_tt, ite_ff]
    refine ⟨by decide, by rw [hL]; decide, _, ?_, ?_, by trivial, t7⟩
    · rw [List.length_append, hL]
      rfl
    · intro d hd
      rcases List.mem_append.mp hd with h | h
      · exact hS d h
      · simp only [List.mem_cons, List.not_mem_nil, or_false] at h
        rcases h with rfl | rfl | rfl | rfl | rfl | rfl | rfl | rfl | rfl | rfl | rfl | rfl | rfl | rfl | rfl <;> exact ds_len _ _
  rintro g8 m8 ⟨L, hL, hS, rfl, t8⟩
  simp only [aSeq, aSet, aC, aVar, aOp, aTest, aTru, aAnd, aOr, aNot, aAndV, aOrV, aNotV, aIfE, aNil, aCons, aTup, aLst, aLstB, aUn, aCa, aSl, aNo, aPart, aM, aML, aRet, aRetN, aIf, aDo, aNext, aCont, aBrk, aAsg, aCall, aCallX, aMeth, aFld, aSetFld, aFldAug, aAug, aRaise, aMake, aYes, kName, kCons, kNil, kSub, nth, put, wipeD, asT_b, fAdd_i, fAdd_s, fAdd_t, fAdd_l, fSub_i, fLt_i, fLe_i, fGt_i, fGe_i, fMul_i, fMod_i, fFdiv_i, fPow_i, fNeg_i, fEq_i, fEq_s, fEq_b, fNe_i, fNe_s, fNe_b, fIn_s, fNi_s, fIx_t0, fIx_t1, fIx_t2, fIx_l0, fIx_l1, fSl_s, fSl_t, fSl_l, fLen_t, fLen_l, fInt_i, fAbs_i, fMax_i, fMin_i, fTuple_t, fTuple_l, fList_t, fList_l, fRepS_s, seqOf_t, seqOf_l, truD_b, truD_t, truD_l, kTup_t, fIsN_n, fIsi_non_int, fIsi_non_bool, fIsi_non_str, fIsi_non_tuple, fIsi_non_list, fIsi_bl_int, fIsi_bl_bool, fIsi_bl_str, fIsi_bl_tuple, fIsi_bl_list, fIsi_int_int, fIsi_int_bool, fIsi_int_str, fIsi_int_tuple, fIsi_int_list, fIsi_str_int, fIsi_str_bool, fIsi_str_str, fIsi_str_tuple, fIsi_str_list, fIsi_tup_int, fIsi_tup_bool, fIsi_tup_str, fIsi_tup_tuple, fIsi_tup_list, fIsi_lst_int, fIsi_lst_bool, fIsi_lst_str, fIsi_lst_tuple, fIsi_lst_list, isN, fIx_sy0, fIx_sy1, ite_tt, ite_ff]
  refine ⟨c, s, L.length, rfl, t8.tp, by omega, by omega, fun r9 m9 a9 b9 t9 => ?_⟩
  obtain ⟨d, hd, hm⟩ := atI_mem (xs := L) a9 b9
  rw [fIx_l hd]
  obtain ⟨z, rfl, hz⟩ := hS d hm
  exact fzE.of (hq z m9 hz (t8.trans t9))
/-! ### values refused -/
def sp_law_refusals : ASp := fun ds m P _ => ∃ (c s : Addr) (r : List Sy), ds = [tapeD c s, rowD r] ∧ TapeIn m c s ∧ ∀ m', Tp c s m m' → P (.bl true) m'
theorem rd_law_refusals : ∀ ds m Q W, sp_law_refusals ds m Q W → b_law_refusals sp_law_asks sp_law_pick sp_law_same W { nx := fun _ m' => fzE K Q .non m', rt := fzE K Q } (ds.map some ++ List.replicate (N_law_refusals.length - ds.length) none) m := by
  rintro ds m Q W ⟨c, s, r, rfl, tp, hq⟩
  change b_law_refusals sp_law_asks sp_law_pick sp_law_same W _ [some (tapeD c s), some (rowD r), none, none, none, none] m
  unfold b_law_refusals
  refine ⟨fun g' m' => ∃ L : List D, L.length = 14 ∧ (∀ d ∈ L, ∀ m, noStr m d) ∧ g' = [some (tapeD c s), some (rowD r), some (.lst L), none, none, none] ∧ m' = m, ?_, ?_⟩
  · simp only [aSeq, aSet, aC, aVar, aOp, aTest, aTru, aAnd, aOr, aNot, aAndV, aOrV, aNotV, aIfE, aNil, aCons, aTup, aLst, aLstB, aUn, aCa, aSl, aNo, aPart, aM, aML, aRet, aRetN, aIf, aDo, aNext, aCont, aBrk, aAsg, aCall, aCallX, aMeth, aFld, aSetFld, aFldAug, aAug, aRaise, aMake, aYes, kName, kCons, kNil, kSub, nth, put, wipeD, asT_b, fAdd_i, fAdd_s, fAdd_t, fAdd_l, fSub_i, fLt_i, fLe_i, fGt_i, fGe_i, fMul_i, fMod_i, fFdiv_i, fPow_i, fNeg_i, fEq_i, fEq_s, fEq_b, fNe_i, fNe_s, fNe_b, fIn_s, fNi_s, fIx_t0, fIx_t1, fIx_t2, fIx_l0, fIx_l1, fSl_s, fSl_t, fSl_l, fLen_t, fLen_l, fInt_i, fAbs_i, fMax_i, fMin_i, fTuple_t, fTuple_l, fList_t, fList_l, fRepS_s, seqOf_t, seqOf_l, truD_b, truD_t, truD_l, kTup_t, fIsN_n, fIsi_non_int, fIsi_non_bool, fIsi_non_str, fIsi_non_tuple, fIsi_non_list, fIsi_bl_int, fIsi_bl_bool, fIsi_bl_str, fIsi_bl_tuple, fIsi_bl_list, fIsi_int_int, fIsi_int_bool, fIsi_int_str, fIsi_int_tuple, fIsi_int_list, fIsi_str_int, fIsi_str_bool, fIsi_str_str, fIsi_str_tuple, fIsi_str_list, fIsi_tup_int, fIsi_tup_bool, fIsi_tup_str, fIsi_tup_tuple, fIsi_tup_list, fIsi_lst_int, fIsi_lst_bool, fIsi_lst_str, fIsi_lst_tuple, fIsi_lst_list, isN, fIx_sy0, fIx_sy1, ite_tt, ite_ff]
    refine ⟨by decide, by decide, by decide, by decide, by decide, by decide, by decide, by decide, ⟨by decide, by decide, by decide⟩, by simp, _, ?_, ?_, by trivial, by trivial⟩
    · rfl
    · intro d hd m
      simp only [List.mem_cons, List.not_mem_nil, or_false] at hd
      rcases hd with rfl | rfl | rfl | rfl | rfl | rfl | rfl | rfl | rfl | rfl | rfl | rfl | rfl | rfl <;> exact ⟨_, rfl, by decide⟩
  rintro g1 m1 ⟨L, hL, hno, rfl, rfl⟩
  refine cut_plain ?_
  simp only [aForR, aCons, aNil, aC]
  refine ⟨0, 2, rfl, fun _ => rfl, by decide, fun k g m' => ∃ x y z, g = [some (tapeD c s), some (rowD r), some (.lst L), x, y, z] ∧ Tp c s m1 m', ⟨none, none, none, rfl, Tp.refl tp⟩, ?_, ?_⟩
  · rintro k g m' hk ⟨x, y, z, rfl, t⟩
    refine cut_plain ?_
    simp only [aSeq, aSet, aC, aVar, aOp, aTest, aTru, aAnd, aOr, aNot, aAndV, aOrV, aNotV, aIfE, aNil, aCons, aTup, aLst, aLstB, aUn, aCa, aSl, aNo, aPart, aM, aML, aRet, aRetN, aIf, aDo, aNext, aCont, aBrk, aAsg, aCall, aCallX, aMeth, aFld, aSetFld, aFldAug, aAug, aRaise, aMake, aYes, kName, kCons, kNil, kSub, nth, put, wipeD, asT_b, fAdd_i, fAdd_s, fAdd_t, fAdd_l, fSub_i, fLt_i, fLe_i, fGt_i, fGe_i, fMul_i, fMod_i, fFdiv_i, fPow_i, fNeg_i, fEq_i, fEq_s, fEq_b, fNe_i, fNe_s, fNe_b, fIn_s, fNi_s, fIx_t0, fIx_t1, fIx_t2, fIx_l0, fIx_l1, fSl_s, fSl_t, fSl_l, fLen_t, fLen_l, fInt_i, fAbs_i, fMax_i, fMin_i, fTuple_t, fTuple_l, fList_t, fList_l, fRepS_s, seqOf_t, seqOf_l, truD_b, truD_t, truD_l, kTup_t, fIsN_n, fIsi_non_int, fIsi_non_bool, fIsi_non_str, fIsi_non_tuple, fIsi_non_list, fIsi_bl_int, fIsi_bl_bool, fIsi_bl_str, fIsi_bl_tuple, fIsi_bl_list, fIsi_int_int, fIsi_int_bool, fIsi_int_str, fIsi_int_tuple, fIsi_int_list, fIsi_str_int, fIsi_str_bool, fIsi_str_str, fIsi_str_tuple, fIsi_str_list, fIsi_tup_int, fIsi_tup_bool, fIsi_tup_str, fIsi_tup_tuple, fIsi_tup_list, fIsi_lst_int, fIsi_lst_bool, fIsi_lst_str, fIsi_lst_tuple, fIsi_lst_list, isN, fIx_sy0, fIx_sy1, ite_tt, ite_ff]
    refine ⟨c, s, L.length, rfl, t.tp, by omega, by omega, fun i m2 i0 i1 t2 => ?_⟩
    obtain ⟨d, hd, hm⟩ := atI_mem (xs := L) i0 i1
    rw [fIx_l hd]
    refine cut_plain ?_
    simp only [aSeq, aSet, aC, aVar, aOp, aTest, aTru, aAnd, aOr, aNot, aAndV, aOrV, aNotV, aIfE, aNil, aCons, aTup, aLst, aLstB, aUn, aCa, aSl, aNo, aPart, aM, aML, aRet, aRetN, aIf, aDo, aNext, aCont, aBrk, aAsg, aCall, aCallX, aMeth, aFld, aSetFld, aFldAug, aAug, aRaise, aMake, aYes, kName, kCons, kNil, kSub, nth, put, wipeD, asT_b, fAdd_i, fAdd_s, fAdd_t, fAdd_l, fSub_i, fLt_i, fLe_i, fGt_i, fGe_i, fMul_i, fMod_i, fFdiv_i, fPow_i, fNeg_i, fEq_i, fEq_s, fEq_b, fNe_i, fNe_s, fNe_b, fIn_s, fNi_s, fIx_t0, fIx_t1, fIx_t2, fIx_l0, fIx_l1, fSl_s, fSl_t, fSl_l, fLen_t, fLen_l, fInt_i, fAbs_i, fMax_i, fMin_i, fTuple_t, fTuple_l, fList_t, fList_l, fRepS_s, seqOf_t, seqOf_l, truD_b, truD_t, truD_l, kTup_t, fIsN_n, fIsi_non_int, fIsi_non_bool, fIsi_non_str, fIsi_non_tuple, fIsi_non_list, fIsi_bl_int, fIsi_bl_bool, fIsi_bl_str, fIsi_bl_tuple, fIsi_bl_list, fIsi_int_int, fIsi_int_bool, fIsi_int_str, fIsi_int_tuple, fIsi_int_list, fIsi_str_int, fIsi_str_bool, fIsi_str_str, fIsi_str_tuple, fIsi_str_list, fIsi_tup_int, fIsi_tup_bool, fIsi_tup_str, fIsi_tup_tuple, fIsi_tup_list, fIsi_lst_int, fIsi_lst_bool, fIsi_lst_str, fIsi_lst_tuple, fIsi_lst_list, isN, fIx_sy0, fIx_sy1, ite_tt, ite_ff]
    refine ⟨by decide, .inr ⟨d, false, rfl, hno d hm m2, .inr ⟨d, true, rfl, hno d hm m2, ?_⟩⟩⟩
    refine ⟨by decide, by decide, .tup [refD, refD], rfl, rfl, by decide, ?_⟩
    simp only [aSeq, aSet, aC, aVar, aOp, aTest, aTru, aAnd, aOr, aNot, aAndV, aOrV, aNotV, aIfE, aNil, aCons, aTup, aLst, aLstB, aUn, aCa, aSl, aNo, aPart, aM, aML, aRet, aRetN, aIf, aDo, aNext, aCont, aBrk, aAsg, aCall, aCallX, aMeth, aFld, aSetFld, aFldAug, aAug, aRaise, aMake, aYes, kName, kCons, kNil, kSub, nth, put, wipeD, asT_b, fAdd_i, fAdd_s, fAdd_t, fAdd_l, fSub_i, fLt_i, fLe_i, fGt_i, fGe_i, fMul_i, fMod_i, fFdiv_i, fPow_i, fNeg_i, fEq_i, fEq_s, fEq_b, fNe_i, fNe_s, fNe_b, fIn_s, fNi_s, fIx_t0, fIx_t1, fIx_t2, fIx_l0, fIx_l1, fSl_s, fSl_t, fSl_l, fLen_t, fLen_l, fInt_i, fAbs_i, fMax_i, fMin_i, fTuple_t, fTuple_l, fList_t, fList_l, fRepS_s, seqOf_t, seqOf_l, truD_b, truD_t, truD_l, kTup_t, fIsN_n, fIsi_non_int, fIsi_non_bool, fIsi_non_str, fIsi_non_tuple, fIsi_non_list, fIsi_bl_int, fIsi_bl_bool, fIsi_bl_str, fIsi_bl_tuple, fIsi_bl_list, fIsi_int_int, fIsi_int_bool, fIsi_int_str, fIsi_int_tuple, fIsi_int_list, fIsi_str_int, fIsi_str_bool, fIsi_str_str, fIsi_str_tuple, fIsi_str_list, fIsi_tup_int, fIsi_tup_bool, fIsi_tup_str, fIsi_tup_tuple, fIsi_tup_list, fIsi_lst_int, fIsi_lst_bool, fIsi_lst_str, fIsi_lst_tuple, fIsi_lst_list, isN, fIx_sy0, fIx_sy1, ite_tt, ite_ff, truD_b, Bool.not_true, Bool.false_eq_true, reduceIte]
    exact ⟨_, _, _, by trivial, t.trans t2⟩
  · rintro g m' ⟨x, y, z, rfl, t⟩
    simp only [aSeq, aSet, aC, aVar, aOp, aTest, aTru, aAnd, aOr, aNot, aAndV, aOrV, aNotV, aIfE, aNil, aCons, aTup, aLst, aLstB, aUn, aCa, aSl, aNo, aPart, aM, aML, aRet, aRetN, aIf, aDo, aNext, aCont, aBrk, aAsg, aCall, aCallX, aMeth, aFld, aSetFld, aFldAug, aAug, aRaise, aMake, aYes, kName, kCons, kNil, kSub, nth, put, wipeD, asT_b, fAdd_i, fAdd_s, fAdd_t, fAdd_l, fSub_i, fLt_i, fLe_i, fGt_i, fGe_i, fMul_i, fMod_i, fFdiv_i, fPow_i, fNeg_i, fEq_i, fEq_s, fEq_b, fNe_i, fNe_s, fNe_b, fIn_s, fNi_s, fIx_t0, fIx_t1, fIx_t2, fIx_l0, fIx_l1, fSl_s, fSl_t, fSl_l, fLen_t, fLen_l, fInt_i, fAbs_i, fMax_i, fMin_i, fTuple_t, fTuple_l, fList_t, fList_l, fRepS_s, seqOf_t, seqOf_l, truD_b, truD_t, truD_l, kTup_t, fIsN_n, fIsi_non_int, fIsi_non_bool, fIsi_non_str, fIsi_non_tuple, fIsi_non_list, fIsi_bl_int, fIsi_bl_bool, fIsi_bl_str, fIsi_bl_tuple, fIsi_bl_list, fIsi_int_int, fIsi_int_bool, fIsi_int_str, fIsi_int_tuple, fIsi_int_list, fIsi_str_int, fIsi_str_bool, fIsi_str_str, fIsi_str_tuple, fIsi_str_list, fIsi_tup_int, fIsi_tup_bool, fIsi_tup_str, fIsi_tup_tuple, fIsi_tup_list, fIsi_lst_int, fIsi_lst_bool, fIsi_lst_str, fIsi_lst_tuple, fIsi_lst_list, isN, fIx_sy0, fIx_sy1, ite_tt, ite_ff]
    exact fzE.of (hq m' t)
end AL
set_option maxHeartbeats 4000000
namespace AL
open PySem L2 Evl
variable {K : PySem.W.Frag}
/-! ### how long what is shown is -/
theorem cl_len : ∀ ms : List Nat, (cl ms).1.length + (cl ms).2.length ≤ ms.length + 1
  | [] => by decide
  | 0 :: r => by
    show 1 + (r.length + 1) ≤ r.length + 1 + 1
    omega
  | 1 :: r => by
    have := cl_len r
    show (cl r).1.length + 1 + (cl r).2.length ≤ r.length + 1 + 1
    omega
  | (n + 2) :: r => by
    show 1 + (r.length + 1) ≤ r.length + 1 + 1
    omega
theorem sh_le : ∀ (r : List Sy) (ms : List Nat), (∀ s ∈ r, s.w.length ≤ 16) → (sh r ms).length ≤ 18 * r.length + ms.length
  | [], ms, _ => Nat.zero_le _
  | s :: r, ms, h => by
    have h1 := h s List.mem_cons_self
    have ih := fun ms => sh_le r ms fun q hq => h q (List.mem_cons_of_mem _ hq)
    rw [sh_cons, List.length_append, List.length_cons]
    split
    · have := ih (s.n :: ms)
      rw [List.length_cons] at this ⊢
      omega
    · unfold aft
      have h2 := ih (cl ms).2
      have h3 := cl_len ms
      rw [List.length_append]
      omega
/-! ### patterns -/
def patS (s : Sy) : Prop := goodSy s ∨ s = holS
theorem word_len {w : List Nat} (h : okWord w) : w ≠ [] ∧ w.length ≤ 16 := by
  rcases h with rfl | ⟨c, r, rfl, _, _, h⟩
  · exact ⟨by simp, by decide⟩
  · refine ⟨by simp, ?_⟩
    rw [List.length_cons]
    omega
theorem pat_len {s : Sy} (h : patS s) : s.w ≠ [] ∧ s.w.length ≤ 16 := by
  rcases h with h | rfl
  · exact word_len h.1
  · exact ⟨by simp [holS], by decide⟩
theorem good_p {h : Bool} {s : Sy} (g : goodSy s) : goodP h s := by
  obtain ⟨hw, hn, h0⟩ := g
  rcases hw with hw | ⟨c, r, hw, h1, h2, h3⟩
  · exact .inl ⟨hw, h0 hw⟩
  · exact .inr (.inr ⟨c, r, hw, h1, h2, h3, hn⟩)
theorem pat_p {s : Sy} (g : patS s) : goodP true s := by
  rcases g with g | rfl
  · exact good_p g
  · exact .inr (.inl ⟨rfl, rfl, rfl⟩)
structure Pt (r : List Sy) : Prop where
  w : whole r
  l : r.length ≤ 60
  p : ∀ s ∈ r, patS s
theorem Pt.mask {r : List Sy} (h : Pt r) {k : Nat} (hk : k < r.length) : Pt (masked r k) := by
  have hf : 1 ≤ far (r.drop k) 1 := by
    rw [drop_get (List.getElem?_eq_getElem hk)]
    exact Nat.succ_le_succ (Nat.zero_le _)
  refine ⟨whole_put h.w (show whole [holS] from rfl) hk, ?_, fun s hs => ?_⟩
  · unfold masked
    rw [List.length_append, List.length_append, List.length_take, List.length_drop, List.length_singleton]
    have := h.l
    omega
  · unfold masked at hs
    rcases List.mem_append.mp hs with hs | hs
    · rcases List.mem_append.mp hs with hs | hs
      · exact h.p s (List.mem_of_mem_take hs)
      · exact .inr (List.mem_singleton.mp hs)
    · exact h.p s (List.mem_of_mem_drop hs)
theorem Pt.sh {r : List Sy} (h : Pt r) : (AL.sh r []).length ≤ 1080 := by
  have h1 := sh_le r [] fun s hs => (pat_len (h.p s hs)).2
  have h2 := h.l
  rw [List.length_nil] at h1
  omega
theorem Pt.ne {r : List Sy} (h : Pt r) : ∀ s ∈ r, s.w ≠ [] := fun s hs => (pat_len (h.p s hs)).1
/-! ### the lines -/
structure LN (a b d : List Sy) (L : List D) : Prop where
  le : L.length ≤ 40
  ts : txtsN 17500 L
  e0 : L[0]? = some (.str (AL.tx (sh a [])))
  e4 : L[4]? = some (.str (AL.tx (sh b [])))
  e8 : L[8]? = some (.str (AL.tx (sh d [])))
theorem LN.add {a b d : List Sy} {L X : List D} (h : LN a b d L) (hx : txtsN 17500 X) (hl : L.length + X.length ≤ 40) : LN a b d (L ++ X) := by
  have l8 := (List.getElem?_eq_some_iff.mp h.e8).1
  refine ⟨by rw [List.length_append]; exact hl, fun y hy => ?_, ?_, ?_, ?_⟩
  · rcases List.mem_append.mp hy with z | z
    · exact h.ts y z
    · exact hx y z
  · rw [List.getElem?_append_left (by omega)]
    exact h.e0
  · rw [List.getElem?_append_left (by omega)]
    exact h.e4
  · rw [List.getElem?_append_left (by omega)]
    exact h.e8
structure LS (m m' : Mu) (c s p : Addr) (L : List D) : Prop where
  tp : TapeIn m' c s
  sub : Sub m m'
  hp : m' p = some (.lst L)
  ne : p ≠ c ∧ p ≠ s
  np : m p = none
section
variable {m m1 m2 : Mu} {c s p q : Addr} {L L' : List D} {o : MO}
theorem Sub.tp (h : Sub m m1) (hc : m c = none) (hs : m s = none) (t : Tp c s m1 m2) : Sub m m2 := fun a o ha => by
  have h1 : a ≠ c := fun z => by
    rw [z, hc] at ha
    cases ha
  have h2 : a ≠ s := fun z => by
    rw [z, hs] at ha
    cases ha
  rw [t.eq a h1 h2]
  exact h a o ha
theorem LS.go (h : LS m m1 c s p L) (hc : m c = none) (hs : m s = none) (t : Tp c s m1 m2) : LS m m2 c s p L := ⟨t.tp, h.sub.tp hc hs t, t.own h.hp h.ne, h.ne, h.np⟩
theorem LS.set (h : LS m m1 c s p L) : LS m (mset m1 p (.lst L')) c s p L' := ⟨h.tp.set h.ne.1 h.ne.2, h.sub.new h.np, mset_same, h.ne, h.np⟩
theorem LS.mk' (tp : TapeIn m1 c s) (sub : Sub m m1) (hq : m1 q = none) : LS m (mset m1 q (.lst L')) c s q L' :=
  ⟨tp.set (tp.apart hq).1 (tp.apart hq).2, sub.new (sub.non hq), mset_same, tp.apart hq, sub.non hq⟩
end
/-! ### comprehensions that draw -/
theorem lcR_draw {n : Nat} {item : Nat → D} {okm : Mu → Prop} {g : Sl} {vs : List Nat} {j : Nat} {fe : Ab} {q c s : Addr} {m : Mu} {R : List D → Mu → Prop} (good : D → Prop) (hq : m q = none) (tp : TapeIn m c s) (hn : n < 100000) (hok : ∀ m', okm m')
    (turn : ∀ i m' (P : PD), i < n → TapeIn m' c s → (∀ d m2, good d → Tp c s m' m2 → P d m2) → fe (put (wipeD g vs) j (some (item i))) m' P)
    (fin : ∀ acc m', acc.length = n → (∀ d ∈ acc, good d) → Tp c s m (mdel m' q) → R acc m') :
    ∃ Pv : Nat → List D → Mu → Prop, Pv 0 [] (mset m q (.lst [])) ∧ lcTurns n item okm g vs (kName j) aYes fe q Pv ∧ ∀ acc m', Pv n acc m' → R acc m' := by
  have hap := tp.apart hq
  refine ⟨fun i acc m' => acc.length = i ∧ (∀ d ∈ acc, good d) ∧ m' q = some (.lst acc) ∧ Fr c s [q] m m', ⟨rfl, fun _ h => (by cases h), mset_same, (Fr.of (Tp.refl tp)).add hq⟩, ⟨fun i acc m' hi h => ⟨hok m', h.2.2.1, by rw [h.1]; omega⟩, fun i acc m' hi h => ?_⟩, fun acc m' h => fin acc m' h.1 h.2.1 (h.2.2.2.del hq).end_⟩
  obtain ⟨h1, h2, h3, h4⟩ := h
  show fe (put (wipeD g vs) j (some (item i))) m' fun y m4 => m4 q = some (.lst acc) ∧ _
  refine turn i m' _ hi h4.tp fun d m2 hd t => ⟨t.own h3 hap, by rw [List.length_append, h1]; rfl, fun e he => ?_, mset_same, (h4.go t).set (by simp)⟩
  rcases List.mem_append.mp he with z | z
  · exact h2 e z
  · rw [List.mem_singleton.mp z]
    exact hd
end AL
set_option maxHeartbeats 4000000
namespace AL
open PySem L2 Evl
variable {K : PySem.W.Frag}
def sp_law : ASp := fun ds m P _ => ∃ ns : List Int, ds = [.scr ns] ∧ ns.length ≤ 63 ∧ P (.bl true) m
theorem reads_ok {h : Bool} {CI CN : Addr} {r : List Sy} {m : Mu} {P : PD} (e : rdm h (sh r []) 0 [] [] 0 = .ok r) (hl : (sh r []).length ≤ 20000) (hp : P (rowD r) m) : sp_reads h CI CN [.str (tx (sh r []))] m P fun _ _ _ => False :=
  .inl ⟨_, rfl, hl, fun F hF => by rw [e] at hF; cases hF; exact hp, fun m' j _ he => by rw [e] at he; cases he⟩
theorem rd_law {CI CN : Addr} : ∀ ds m Q W, sp_law ds m Q W → b_law sp_law_built sp_law_marks sp_law_masked sp_law_pick sp_law_refusals sp_law_right sp_law_same sp_law_shown sp_law_tape sp_law_tree sp_law_turned (sp_reads true CI CN) (sp_reads false CI CN) sp_shown W { nx := fun _ m' => fzE K Q .non m', rt := fzE K Q } (ds.map some ++ List.replicate (N_law.length - ds.length) none) m := by
  rintro ds m Q W ⟨ns, rfl, hns, hq⟩
  change b_law _ _ _ _ _ _ _ _ _ _ _ _ _ _ W _ [some (.scr ns), none, none, none, none, none, none, none, none, none, none, none, none, none] m
  unfold b_law
  refine ⟨fun g m' => ∃ c s, g = [some (.scr ns), some (tapeD c s), none, none, none, none, none, none, none, none, none, none, none, none] ∧ m c = none ∧ m s = none ∧ TapeIn m' c s ∧ Sub m m', ?_, ?_⟩
  · simp only [aSeq, aSet, aC, aVar, aOp, aTest, aTru, aAnd, aOr, aNot, aAndV, aOrV, aNotV, aIfE, aNil, aCons, aTup, aLst, aLstB, aUn, aCa, aSl, aNo, aPart, aM, aML, aRet, aRetN, aIf, aDo, aNext, aCont, aBrk, aAsg, aCall, aCallX, aMeth, aFld, aSetFld, aFldAug, aAug, aRaise, aMake, aYes, kName, kCons, kNil, kSub, nth, put, wipeD, asT_b, fAdd_i, fAdd_s, fAdd_t, fAdd_l, fSub_i, fLt_i, fLe_i, fGt_i, fGe_i, fMul_i, fMod_i, fFdiv_i, fPow_i, fNeg_i, fEq_i, fEq_s, fEq_b, fNe_i, fNe_s, fNe_b, fIn_s, fNi_s, fIx_t0, fIx_t1, fIx_t2, fIx_l0, fIx_l1, fSl_s, fSl_t, fSl_l, fLen_t, fLen_l, fInt_i, fAbs_i, fMax_i, fMin_i, fTuple_t, fTuple_l, fList_t, fList_l, fRepS_s, seqOf_t, seqOf_l, truD_b, truD_t, truD_l, kTup_t, fIsN_n, fIsi_non_int, fIsi_non_bool, fIsi_non_str, fIsi_non_tuple, fIsi_non_list, fIsi_bl_int, fIsi_bl_bool, fIsi_bl_str, fIsi_bl_tuple, fIsi_bl_list, fIsi_int_int, fIsi_int_bool, fIsi_int_str, fIsi_int_tuple, fIsi_int_list, fIsi_str_int, fIsi_str_bool, fIsi_str_str, fIsi_str_tuple, fIsi_str_list, fIsi_tup_int, fIsi_tup_bool, fIsi_tup_str, fIsi_tup_tuple, fIsi_tup_list, fIsi_lst_int, fIsi_lst_bool, fIsi_lst_str, fIsi_lst_tuple, fIsi_lst_list, isN, fIx_sy0, fIx_sy1, ite_tt, ite_ff]
    refine ⟨ns, rfl, hns, fun c s m' hc hs tp heq => ⟨c, s, by trivial, hc, hs, tp, fun a o ha => ?_⟩⟩
    rw [heq a (fun z => by rw [z, hc] at ha; cases ha) (fun z => by rw [z, hs] at ha; cases ha)]
    exact ha
  rintro g m1 ⟨c, s, rfl, hc, hs, tp1, sub1⟩
  refine ⟨fun g m' => ∃ ms, MarksOk ms ∧ g = [some (.scr ns), some (tapeD c s), some (.lst (ms.map syD)), none, none, none, none, none, none, none, none, none, none, none] ∧ TapeIn m' c s ∧ Sub m m', ?_, ?_⟩
  · simp only [aSeq, aSet, aC, aVar, aOp, aTest, aTru, aAnd, aOr, aNot, aAndV, aOrV, aNotV, aIfE, aNil, aCons, aTup, aLst, aLstB, aUn, aCa, aSl, aNo, aPart, aM, aML, aRet, aRetN, aIf, aDo, aNext, aCont, aBrk, aAsg, aCall, aCallX, aMeth, aFld, aSetFld, aFldAug, aAug, aRaise, aMake, aYes, kName, kCons, kNil, kSub, nth, put, wipeD, asT_b, fAdd_i, fAdd_s, fAdd_t, fAdd_l, fSub_i, fLt_i, fLe_i, fGt_i, fGe_i, fMul_i, fMod_i, fFdiv_i, fPow_i, fNeg_i, fEq_i, fEq_s, fEq_b, fNe_i, fNe_s, fNe_b, fIn_s, fNi_s, fIx_t0, fIx_t1, fIx_t2, fIx_l0, fIx_l1, fSl_s, fSl_t, fSl_l, fLen_t, fLen_l, fInt_i, fAbs_i, fMax_i, fMin_i, fTuple_t, fTuple_l, fList_t, fList_l, fRepS_s, seqOf_t, seqOf_l, truD_b, truD_t, truD_l, kTup_t, fIsN_n, fIsi_non_int, fIsi_non_bool, fIsi_non_str, fIsi_non_tuple, fIsi_non_list, fIsi_bl_int, fIsi_bl_bool, fIsi_bl_str, fIsi_bl_tuple, fIsi_bl_list, fIsi_int_int, fIsi_int_bool, fIsi_int_str, fIsi_int_tuple, fIsi_int_list, fIsi_str_int, fIsi_str_bool, fIsi_str_str, fIsi_str_tuple, fIsi_str_list, fIsi_tup_int, fIsi_tup_bool, fIsi_tup_str, fIsi_tup_tuple, fIsi_tup_list, fIsi_lst_int, fIsi_lst_bool, fIsi_lst_str, fIsi_lst_tuple, fIsi_lst_list, isN, fIx_sy0, fIx_sy1, ite_tt, ite_ff]
    exact ⟨c, s, rfl, tp1, fun ms m' ok t => ⟨ms, ok, by trivial, t.tp, sub1.tp hc hs t⟩⟩
  rintro g m2 ⟨ms, mok, rfl, tp2, sub2⟩
  refine ⟨fun g m' => ∃ n : Nat, 1 ≤ n ∧ n ≤ 60 ∧ g = [some (.scr ns), some (tapeD c s), some (.lst (ms.map syD)), some (.int (n : Int)), none, none, none, none, none, none, none, none, none, none] ∧ TapeIn m' c s ∧ Sub m m', ?_, ?_⟩
  · simp only [aSeq, aSet, aC, aVar, aOp, aTest, aTru, aAnd, aOr, aNot, aAndV, aOrV, aNotV, aIfE, aNil, aCons, aTup, aLst, aLstB, aUn, aCa, aSl, aNo, aPart, aM, aML, aRet, aRetN, aIf, aDo, aNext, aCont, aBrk, aAsg, aCall, aCallX, aMeth, aFld, aSetFld, aFldAug, aAug, aRaise, aMake, aYes, kName, kCons, kNil, kSub, nth, put, wipeD, asT_b, fAdd_i, fAdd_s, fAdd_t, fAdd_l, fSub_i, fLt_i, fLe_i, fGt_i, fGe_i, fMul_i, fMod_i, fFdiv_i, fPow_i, fNeg_i, fEq_i, fEq_s, fEq_b, fNe_i, fNe_s, fNe_b, fIn_s, fNi_s, fIx_t0, fIx_t1, fIx_t2, fIx_l0, fIx_l1, fSl_s, fSl_t, fSl_l, fLen_t, fLen_l, fInt_i, fAbs_i, fMax_i, fMin_i, fTuple_t, fTuple_l, fList_t, fList_l, fRepS_s, seqOf_t, seqOf_l, truD_b, truD_t, truD_l, kTup_t, fIsN_n, fIsi_non_int, fIsi_non_bool, fIsi_non_str, fIsi_non_tuple, fIsi_non_list, fIsi_bl_int, fIsi_bl_bool, fIsi_bl_str, fIsi_bl_tuple, fIsi_bl_list, fIsi_int_int, fIsi_int_bool, fIsi_int_str, fIsi_int_tuple, fIsi_int_list, fIsi_str_int, fIsi_str_bool, fIsi_str_str, fIsi_str_tuple, fIsi_str_list, fIsi_tup_int, fIsi_tup_bool, fIsi_tup_str, fIsi_tup_tuple, fIsi_tup_list, fIsi_lst_int, fIsi_lst_bool, fIsi_lst_str, fIsi_lst_tuple, fIsi_lst_list, isN, fIx_sy0, fIx_sy1, ite_tt, ite_ff]
    refine ⟨c, s, 14, rfl, tp2, by decide, by decide, fun r m' r0 r1 t => ?_⟩
    obtain ⟨k, rfl⟩ := nn_of r0
    simp only [aSeq, aSet, aC, aVar, aOp, aTest, aTru, aAnd, aOr, aNot, aAndV, aOrV, aNotV, aIfE, aNil, aCons, aTup, aLst, aLstB, aUn, aCa, aSl, aNo, aPart, aM, aML, aRet, aRetN, aIf, aDo, aNext, aCont, aBrk, aAsg, aCall, aCallX, aMeth, aFld, aSetFld, aFldAug, aAug, aRaise, aMake, aYes, kName, kCons, kNil, kSub, nth, put, wipeD, asT_b, fAdd_i, fAdd_s, fAdd_t, fAdd_l, fSub_i, fLt_i, fLe_i, fGt_i, fGe_i, fMul_i, fMod_i, fFdiv_i, fPow_i, fNeg_i, fEq_i, fEq_s, fEq_b, fNe_i, fNe_s, fNe_b, fIn_s, fNi_s, fIx_t0, fIx_t1, fIx_t2, fIx_l0, fIx_l1, fSl_s, fSl_t, fSl_l, fLen_t, fLen_l, fInt_i, fAbs_i, fMax_i, fMin_i, fTuple_t, fTuple_l, fList_t, fList_l, fRepS_s, seqOf_t, seqOf_l, truD_b, truD_t, truD_l, kTup_t, fIsN_n, fIsi_non_int, fIsi_non_bool, fIsi_non_str, fIsi_non_tuple, fIsi_non_list, fIsi_bl_int, fIsi_bl_bool, fIsi_bl_str, fIsi_bl_tuple, fIsi_bl_list, fIsi_int_int, fIsi_int_bool, fIsi_int_str, fIsi_int_tuple, fIsi_int_list, fIsi_str_int, fIsi_str_bool, fIsi_str_str, fIsi_str_tuple, fIsi_str_list, fIsi_tup_int, fIsi_tup_bool, fIsi_tup_str, fIsi_tup_tuple, fIsi_tup_list, fIsi_lst_int, fIsi_lst_bool, fIsi_lst_str, fIsi_lst_tuple, fIsi_lst_list, isN, fIx_sy0, fIx_sy1, ite_tt, ite_ff]
    refine ⟨1 + k, by omega, by omega, ?_, t.tp, sub2.tp hc hs t⟩
    rw [int_eq (show (1 : Int) + (k : Int) = ((1 + k : Nat) : Int) by omega)]
  rintro g m3 ⟨n0, n01, n02, rfl, tp3, sub3⟩
  refine ⟨fun g m' => ∃ n : Nat, 1 ≤ n ∧ n ≤ 60 ∧ g = [some (.scr ns), some (tapeD c s), some (.lst (ms.map syD)), some (.int (n : Int)), none, none, none, none, none, none, none, none, none, none] ∧ TapeIn m' c s ∧ Sub m m', ?_, ?_⟩
  · simp only [aSeq, aSet, aC, aVar, aOp, aTest, aTru, aAnd, aOr, aNot, aAndV, aOrV, aNotV, aIfE, aNil, aCons, aTup, aLst, aLstB, aUn, aCa, aSl, aNo, aPart, aM, aML, aRet, aRetN, aIf, aDo, aNext, aCont, aBrk, aAsg, aCall, aCallX, aMeth, aFld, aSetFld, aFldAug, aAug, aRaise, aMake, aYes, kName, kCons, kNil, kSub, nth, put, wipeD, asT_b, fAdd_i, fAdd_s, fAdd_t, fAdd_l, fSub_i, fLt_i, fLe_i, fGt_i, fGe_i, fMul_i, fMod_i, fFdiv_i, fPow_i, fNeg_i, fEq_i, fEq_s, fEq_b, fNe_i, fNe_s, fNe_b, fIn_s, fNi_s, fIx_t0, fIx_t1, fIx_t2, fIx_l0, fIx_l1, fSl_s, fSl_t, fSl_l, fLen_t, fLen_l, fInt_i, fAbs_i, fMax_i, fMin_i, fTuple_t, fTuple_l, fList_t, fList_l, fRepS_s, seqOf_t, seqOf_l, truD_b, truD_t, truD_l, kTup_t, fIsN_n, fIsi_non_int, fIsi_non_bool, fIsi_non_str, fIsi_non_tuple, fIsi_non_list, fIsi_bl_int, fIsi_bl_bool, fIsi_bl_str, fIsi_bl_tuple, fIsi_bl_list, fIsi_int_int, fIsi_int_bool, fIsi_int_str, fIsi_int_tuple, fIsi_int_list, fIsi_str_int, fIsi_str_bool, fIsi_str_str, fIsi_str_tuple, fIsi_str_list, fIsi_tup_int, fIsi_tup_bool, fIsi_tup_str, fIsi_tup_tuple, fIsi_tup_list, fIsi_lst_int, fIsi_lst_bool, fIsi_lst_str, fIsi_lst_tuple, fIsi_lst_list, isN, fIx_sy0, fIx_sy1, ite_tt, ite_ff]
    refine ⟨c, s, 8, rfl, tp3, by decide, by decide, fun r m' r0 r1 t => ?_⟩
    simp only [aSeq, aSet, aC, aVar, aOp, aTest, aTru, aAnd, aOr, aNot, aAndV, aOrV, aNotV, aIfE, aNil, aCons, aTup, aLst, aLstB, aUn, aCa, aSl, aNo, aPart, aM, aML, aRet, aRetN, aIf, aDo, aNext, aCont, aBrk, aAsg, aCall, aCallX, aMeth, aFld, aSetFld, aFldAug, aAug, aRaise, aMake, aYes, kName, kCons, kNil, kSub, nth, put, wipeD, asT_b, fAdd_i, fAdd_s, fAdd_t, fAdd_l, fSub_i, fLt_i, fLe_i, fGt_i, fGe_i, fMul_i, fMod_i, fFdiv_i, fPow_i, fNeg_i, fEq_i, fEq_s, fEq_b, fNe_i, fNe_s, fNe_b, fIn_s, fNi_s, fIx_t0, fIx_t1, fIx_t2, fIx_l0, fIx_l1, fSl_s, fSl_t, fSl_l, fLen_t, fLen_l, fInt_i, fAbs_i, fMax_i, fMin_i, fTuple_t, fTuple_l, fList_t, fList_l, fRepS_s, seqOf_t, seqOf_l, truD_b, truD_t, truD_l, kTup_t, fIsN_n, fIsi_non_int, fIsi_non_bool, fIsi_non_str, fIsi_non_tuple, fIsi_non_list, fIsi_bl_int, fIsi_bl_bool, fIsi_bl_str, fIsi_bl_tuple, fIsi_bl_list, fIsi_int_int, fIsi_int_bool, fIsi_int_str, fIsi_int_tuple, fIsi_int_list, fIsi_str_int, fIsi_str_bool, fIsi_str_str, fIsi_str_tuple, fIsi_str_list, fIsi_tup_int, fIsi_tup_bool, fIsi_tup_str, fIsi_tup_tuple, fIsi_tup_list, fIsi_lst_int, fIsi_lst_bool, fIsi_lst_str, fIsi_lst_tuple, fIsi_lst_list, isN, fIx_sy0, fIx_sy1, ite_tt, ite_ff]
    by_cases h2 : r = 2
    · rw [if_pos (decide_eq_true h2)]
      exact ⟨60, by decide, by decide, by trivial, t.tp, sub3.tp hc hs t⟩
    · rw [if_neg (by simp [h2])]
      exact ⟨n0, n01, n02, by trivial, t.tp, sub3.tp hc hs t⟩
  rintro g m4 ⟨n, n1, n2, rfl, tp4, sub4⟩
  refine ⟨fun g m' => ∃ tall, whole tall ∧ tall.length ≤ 60 ∧ (∀ x ∈ tall, goodSy x) ∧ g = [some (.scr ns), some (tapeD c s), some (.lst (ms.map syD)), some (.int (n : Int)), some (rowD tall), none, none, none, none, none, none, none, none, none] ∧ TapeIn m' c s ∧ Sub m m', ?_, ?_⟩
  · simp only [aSeq, aSet, aC, aVar, aOp, aTest, aTru, aAnd, aOr, aNot, aAndV, aOrV, aNotV, aIfE, aNil, aCons, aTup, aLst, aLstB, aUn, aCa, aSl, aNo, aPart, aM, aML, aRet, aRetN, aIf, aDo, aNext, aCont, aBrk, aAsg, aCall, aCallX, aMeth, aFld, aSetFld, aFldAug, aAug, aRaise, aMake, aYes, kName, kCons, kNil, kSub, nth, put, wipeD, asT_b, fAdd_i, fAdd_s, fAdd_t, fAdd_l, fSub_i, fLt_i, fLe_i, fGt_i, fGe_i, fMul_i, fMod_i, fFdiv_i, fPow_i, fNeg_i, fEq_i, fEq_s, fEq_b, fNe_i, fNe_s, fNe_b, fIn_s, fNi_s, fIx_t0, fIx_t1, fIx_t2, fIx_l0, fIx_l1, fSl_s, fSl_t, fSl_l, fLen_t, fLen_l, fInt_i, fAbs_i, fMax_i, fMin_i, fTuple_t, fTuple_l, fList_t, fList_l, fRepS_s, seqOf_t, seqOf_l, truD_b, truD_t, truD_l, kTup_t, fIsN_n, fIsi_non_int, fIsi_non_bool, fIsi_non_str, fIsi_non_tuple, fIsi_non_list, fIsi_bl_int, fIsi_bl_bool, fIsi_bl_str, fIsi_bl_tuple, fIsi_bl_list, fIsi_int_int, fIsi_int_bool, fIsi_int_str, fIsi_int_tuple, fIsi_int_list, fIsi_str_int, fIsi_str_bool, fIsi_str_str, fIsi_str_tuple, fIsi_str_list, fIsi_tup_int, fIsi_tup_bool, fIsi_tup_str, fIsi_tup_tuple, fIsi_tup_list, fIsi_lst_int, fIsi_lst_bool, fIsi_lst_str, fIsi_lst_tuple, fIsi_lst_list, isN, fIx_sy0, fIx_sy1, ite_tt, ite_ff]
    exact ⟨c, s, ms, n, rfl, tp4, mok, n1, by omega, fun t m' hw hl hg h => ⟨t, hw, by omega, hg, by trivial, h.tp, sub4.tp hc hs h⟩⟩
  rintro g m5 ⟨tall, ta1, ta2, ta3, rfl, tp5, sub5⟩
  have pa : Pt tall := ⟨ta1, ta2, fun x hx => .inl (ta3 x hx)⟩
  refine ⟨fun g m' => ∃ mask, Pt mask ∧ g = [some (.scr ns), some (tapeD c s), some (.lst (ms.map syD)), some (.int (n : Int)), some (rowD tall), some (rowD mask), none, none, none, none, none, none, none, none] ∧ TapeIn m' c s ∧ Sub m m', ?_, ?_⟩
  · simp only [aSeq, aSet, aC, aVar, aOp, aTest, aTru, aAnd, aOr, aNot, aAndV, aOrV, aNotV, aIfE, aNil, aCons, aTup, aLst, aLstB, aUn, aCa, aSl, aNo, aPart, aM, aML, aRet, aRetN, aIf, aDo, aNext, aCont, aBrk, aAsg, aCall, aCallX, aMeth, aFld, aSetFld, aFldAug, aAug, aRaise, aMake, aYes, kName, kCons, kNil, kSub, nth, put, wipeD, asT_b, fAdd_i, fAdd_s, fAdd_t, fAdd_l, fSub_i, fLt_i, fLe_i, fGt_i, fGe_i, fMul_i, fMod_i, fFdiv_i, fPow_i, fNeg_i, fEq_i, fEq_s, fEq_b, fNe_i, fNe_s, fNe_b, fIn_s, fNi_s, fIx_t0, fIx_t1, fIx_t2, fIx_l0, fIx_l1, fSl_s, fSl_t, fSl_l, fLen_t, fLen_l, fInt_i, fAbs_i, fMax_i, fMin_i, fTuple_t, fTuple_l, fList_t, fList_l, fRepS_s, seqOf_t, seqOf_l, truD_b, truD_t, truD_l, kTup_t, fIsN_n, fIsi_non_int, fIsi_non_bool, fIsi_non_str, fIsi_non_tuple, fIsi_non_list, fIsi_bl_int, fIsi_bl_bool, fIsi_bl_str, fIsi_bl_tuple, fIsi_bl_list, fIsi_int_int, fIsi_int_bool, fIsi_int_str, fIsi_int_tuple, fIsi_int_list, fIsi_str_int, fIsi_str_bool, fIsi_str_str, fIsi_str_tuple, fIsi_str_list, fIsi_tup_int, fIsi_tup_bool, fIsi_tup_str, fIsi_tup_tuple, fIsi_tup_list, fIsi_lst_int, fIsi_lst_bool, fIsi_lst_str, fIsi_lst_tuple, fIsi_lst_list, isN, fIx_sy0, fIx_sy1, ite_tt, ite_ff]
    refine ⟨c, s, tall, rfl, tp5, ta1, by omega, fun k m' hk t => ?_⟩
    have p1 := pa.mask hk
    refine ⟨c, s, _, rfl, t.tp, p1.w, by have := p1.l; omega, fun k2 m'' hk2 t2 => ⟨_, p1.mask hk2, by trivial, t2.tp, (sub5.tp hc hs t).tp hc hs t2⟩⟩
  rintro g m6 ⟨mask, pm, rfl, tp6, sub6⟩
  refine ⟨fun g m' => ∃ few, Pt few ∧ g = [some (.scr ns), some (tapeD c s), some (.lst (ms.map syD)), some (.int (n : Int)), some (rowD tall), some (rowD mask), some (rowD few), none, none, none, none, none, none, none] ∧ TapeIn m' c s ∧ Sub m m', ?_, ?_⟩
  · simp only [aSeq, aSet, aC, aVar, aOp, aTest, aTru, aAnd, aOr, aNot, aAndV, aOrV, aNotV, aIfE, aNil, aCons, aTup, aLst, aLstB, aUn, aCa, aSl, aNo, aPart, aM, aML, aRet, aRetN, aIf, aDo, aNext, aCont, aBrk, aAsg, aCall, aCallX, aMeth, aFld, aSetFld, aFldAug, aAug, aRaise, aMake, aYes, kName, kCons, kNil, kSub, nth, put, wipeD, asT_b, fAdd_i, fAdd_s, fAdd_t, fAdd_l, fSub_i, fLt_i, fLe_i, fGt_i, fGe_i, fMul_i, fMod_i, fFdiv_i, fPow_i, fNeg_i, fEq_i, fEq_s, fEq_b, fNe_i, fNe_s, fNe_b, fIn_s, fNi_s, fIx_t0, fIx_t1, fIx_t2, fIx_l0, fIx_l1, fSl_s, fSl_t, fSl_l, fLen_t, fLen_l, fInt_i, fAbs_i, fMax_i, fMin_i, fTuple_t, fTuple_l, fList_t, fList_l, fRepS_s, seqOf_t, seqOf_l, truD_b, truD_t, truD_l, kTup_t, fIsN_n, fIsi_non_int, fIsi_non_bool, fIsi_non_str, fIsi_non_tuple, fIsi_non_list, fIsi_bl_int, fIsi_bl_bool, fIsi_bl_str, fIsi_bl_tuple, fIsi_bl_list, fIsi_int_int, fIsi_int_bool, fIsi_int_str, fIsi_int_tuple, fIsi_int_list, fIsi_str_int, fIsi_str_bool, fIsi_str_str, fIsi_str_tuple, fIsi_str_list, fIsi_tup_int, fIsi_tup_bool, fIsi_tup_str, fIsi_tup_tuple, fIsi_tup_list, fIsi_lst_int, fIsi_lst_bool, fIsi_lst_str, fIsi_lst_tuple, fIsi_lst_list, isN, fIx_sy0, fIx_sy1, ite_tt, ite_ff]
    refine ⟨c, s, 6, rfl, tp6, by decide, by decide, fun r m' r0 r1 t => ?_⟩
    obtain ⟨k, rfl⟩ := nn_of r0
    simp only [aSeq, aSet, aC, aVar, aOp, aTest, aTru, aAnd, aOr, aNot, aAndV, aOrV, aNotV, aIfE, aNil, aCons, aTup, aLst, aLstB, aUn, aCa, aSl, aNo, aPart, aM, aML, aRet, aRetN, aIf, aDo, aNext, aCont, aBrk, aAsg, aCall, aCallX, aMeth, aFld, aSetFld, aFldAug, aAug, aRaise, aMake, aYes, kName, kCons, kNil, kSub, nth, put, wipeD, asT_b, fAdd_i, fAdd_s, fAdd_t, fAdd_l, fSub_i, fLt_i, fLe_i, fGt_i, fGe_i, fMul_i, fMod_i, fFdiv_i, fPow_i, fNeg_i, fEq_i, fEq_s, fEq_b, fNe_i, fNe_s, fNe_b, fIn_s, fNi_s, fIx_t0, fIx_t1, fIx_t2, fIx_l0, fIx_l1, fSl_s, fSl_t, fSl_l, fLen_t, fLen_l, fInt_i, fAbs_i, fMax_i, fMin_i, fTuple_t, fTuple_l, fList_t, fList_l, fRepS_s, seqOf_t, seqOf_l, truD_b, truD_t, truD_l, kTup_t, fIsN_n, fIsi_non_int, fIsi_non_bool, fIsi_non_str, fIsi_non_tuple, fIsi_non_list, fIsi_bl_int, fIsi_bl_bool, fIsi_bl_str, fIsi_bl_tuple, fIsi_bl_list, fIsi_int_int, fIsi_int_bool, fIsi_int_str, fIsi_int_tuple, fIsi_int_list, fIsi_str_int, fIsi_str_bool, fIsi_str_str, fIsi_str_tuple, fIsi_str_list, fIsi_tup_int, fIsi_tup_bool, fIsi_tup_str, fIsi_tup_tuple, fIsi_tup_list, fIsi_lst_int, fIsi_lst_bool, fIsi_lst_str, fIsi_lst_tuple, fIsi_lst_list, isN, fIx_sy0, fIx_sy1, ite_tt, ite_ff]
    refine ⟨c, s, ms, 1 + k, ?_, t.tp, mok, by omega, by omega, fun f m'' hw hl hg h => ⟨f, ⟨hw, by omega, fun x hx => .inl (hg x hx)⟩, by trivial, h.tp, (sub6.tp hc hs t).tp hc hs h⟩⟩
    rw [int_eq (show (1 : Int) + (k : Int) = ((1 + k : Nat) : Int) by omega)]
  rintro g m7 ⟨few, pf, rfl, tp7, sub7⟩
  let G : Option D → Option D → Option D → Option D → Option D → Option D → Option D → Sl := fun x7 x8 x9 x10 x11 x12 x13 => [some (.scr ns), some (tapeD c s), some (.lst (ms.map syD)), some (.int (n : Int)), some (rowD tall), some (rowD mask), some (rowD few), x7, x8, x9, x10, x11, x12, x13]
  refine ⟨fun g m' => ∃ p, g = G (some (.box p)) none none none none none none ∧ LS m m' c s p [], ?_, ?_⟩
  · simp only [aSeq, aSet, aC, aVar, aOp, aTest, aTru, aAnd, aOr, aNot, aAndV, aOrV, aNotV, aIfE, aNil, aCons, aTup, aLst, aLstB, aUn, aCa, aSl, aNo, aPart, aM, aML, aRet, aRetN, aIf, aDo, aNext, aCont, aBrk, aAsg, aCall, aCallX, aMeth, aFld, aSetFld, aFldAug, aAug, aRaise, aMake, aYes, kName, kCons, kNil, kSub, nth, put, wipeD, asT_b, fAdd_i, fAdd_s, fAdd_t, fAdd_l, fSub_i, fLt_i, fLe_i, fGt_i, fGe_i, fMul_i, fMod_i, fFdiv_i, fPow_i, fNeg_i, fEq_i, fEq_s, fEq_b, fNe_i, fNe_s, fNe_b, fIn_s, fNi_s, fIx_t0, fIx_t1, fIx_t2, fIx_l0, fIx_l1, fSl_s, fSl_t, fSl_l, fLen_t, fLen_l, fInt_i, fAbs_i, fMax_i, fMin_i, fTuple_t, fTuple_l, fList_t, fList_l, fRepS_s, seqOf_t, seqOf_l, truD_b, truD_t, truD_l, kTup_t, fIsN_n, fIsi_non_int, fIsi_non_bool, fIsi_non_str, fIsi_non_tuple, fIsi_non_list, fIsi_bl_int, fIsi_bl_bool, fIsi_bl_str, fIsi_bl_tuple, fIsi_bl_list, fIsi_int_int, fIsi_int_bool, fIsi_int_str, fIsi_int_tuple, fIsi_int_list, fIsi_str_int, fIsi_str_bool, fIsi_str_str, fIsi_str_tuple, fIsi_str_list, fIsi_tup_int, fIsi_tup_bool, fIsi_tup_str, fIsi_tup_tuple, fIsi_tup_list, fIsi_lst_int, fIsi_lst_bool, fIsi_lst_str, fIsi_lst_tuple, fIsi_lst_list, isN, fIx_sy0, fIx_sy1, ite_tt, ite_ff]
    exact ⟨by decide, fun p hp => ⟨p, by trivial, LS.mk' tp7 sub7 hp⟩⟩
  rintro g m8 ⟨p0, rfl, ls0⟩
  -- the lines of the three trees
  refine ⟨fun g m' => ∃ p L x8 x11, g = G (some (.box p)) x8 none none x11 none none ∧ LS m m' c s p L ∧ L.length = 12 ∧ LN tall mask few L, ?_, ?_⟩
  · simp only [aFor, aLst, aCons, aNil, aVar, nth, G]
    refine ⟨by simp, _, rfl, fun i g m' => ∃ p L x8 x11, g = G (some (.box p)) x8 none none x11 none none ∧ LS m m' c s p L ∧ L.length = 4 * i ∧ txtsN 17500 L ∧ ∀ j r, j < i → [tall, mask, few][j]? = some r → L[4 * j]? = some (.str (tx (sh r []))), ⟨p0, [], none, none, rfl, ls0, rfl, fun _ h => (by cases h), fun j r hj => (by omega)⟩, fun _ _ _ _ _ => rfl, ?_, ?_⟩
    · rintro i x g m9 hx ⟨p, L, x8, x11, rfl, ls, hL, hT, hE⟩
      obtain ⟨r, hr, rfl, pr⟩ : ∃ r, [tall, mask, few][i]? = some r ∧ x = rowD r ∧ Pt r := by
        match i, hx with
        | 0, hx => cases hx; exact ⟨tall, rfl, rfl, pa⟩
        | 1, hx => cases hx; exact ⟨mask, rfl, rfl, pm⟩
        | 2, hx => cases hx; exact ⟨few, rfl, rfl, pf⟩
      have hi3 : i < 3 := (List.getElem?_eq_some_iff.mp hr).1
      have lsh := pr.sh
      simp only [kName, put, G]
      refine ⟨fun g m' => g = G (some (.box p)) (some (rowD r)) none none (some (.str (tx (sh r [])))) none none ∧ m' = m9, ?_, ?_⟩
      · simp only [aSeq, aSet, aC, aVar, aOp, aTest, aTru, aAnd, aOr, aNot, aAndV, aOrV, aNotV, aIfE, aNil, aCons, aTup, aLst, aLstB, aUn, aCa, aSl, aNo, aPart, aM, aML, aRet, aRetN, aIf, aDo, aNext, aCont, aBrk, aAsg, aCall, aCallX, aMeth, aFld, aSetFld, aFldAug, aAug, aRaise, aMake, aYes, kName, kCons, kNil, kSub, nth, put, wipeD, asT_b, fAdd_i, fAdd_s, fAdd_t, fAdd_l, fSub_i, fLt_i, fLe_i, fGt_i, fGe_i, fMul_i, fMod_i, fFdiv_i, fPow_i, fNeg_i, fEq_i, fEq_s, fEq_b, fNe_i, fNe_s, fNe_b, fIn_s, fNi_s, fIx_t0, fIx_t1, fIx_t2, fIx_l0, fIx_l1, fSl_s, fSl_t, fSl_l, fLen_t, fLen_l, fInt_i, fAbs_i, fMax_i, fMin_i, fTuple_t, fTuple_l, fList_t, fList_l, fRepS_s, seqOf_t, seqOf_l, truD_b, truD_t, truD_l, kTup_t, fIsN_n, fIsi_non_int, fIsi_non_bool, fIsi_non_str, fIsi_non_tuple, fIsi_non_list, fIsi_bl_int, fIsi_bl_bool, fIsi_bl_str, fIsi_bl_tuple, fIsi_bl_list, fIsi_int_int, fIsi_int_bool, fIsi_int_str, fIsi_int_tuple, fIsi_int_list, fIsi_str_int, fIsi_str_bool, fIsi_str_str, fIsi_str_tuple, fIsi_str_list, fIsi_tup_int, fIsi_tup_bool, fIsi_tup_str, fIsi_tup_tuple, fIsi_tup_list, fIsi_lst_int, fIsi_lst_bool, fIsi_lst_str, fIsi_lst_tuple, fIsi_lst_list, isN, fIx_sy0, fIx_sy1, ite_tt, ite_ff]
        exact ⟨r, rfl, pr.w, by have := pr.l; omega, by omega, by trivial, by trivial⟩
      rintro g m10 ⟨rfl, rfl⟩
      refine ⟨fun g m' => g = G (some (.box p)) (some (rowD r)) none none (some (.str (tx (sh r [])))) none none ∧ m' = m10, ?_, ?_⟩
      · simp only [G]
        simp only [aSeq, aSet, aC, aVar, aOp, aTest, aTru, aAnd, aOr, aNot, aAndV, aOrV, aNotV, aIfE, aNil, aCons, aTup, aLst, aLstB, aUn, aCa, aSl, aNo, aPart, aM, aML, aRet, aRetN, aIf, aDo, aNext, aCont, aBrk, aAsg, aCall, aCallX, aMeth, aFld, aSetFld, aFldAug, aAug, aRaise, aMake, aYes, kName, kCons, kNil, kSub, nth, put, wipeD, asT_b, fAdd_i, fAdd_s, fAdd_t, fAdd_l, fSub_i, fLt_i, fLe_i, fGt_i, fGe_i, fMul_i, fMod_i, fFdiv_i, fPow_i, fNeg_i, fEq_i, fEq_s, fEq_b, fNe_i, fNe_s, fNe_b, fIn_s, fNi_s, fIx_t0, fIx_t1, fIx_t2, fIx_l0, fIx_l1, fSl_s, fSl_t, fSl_l, fLen_t, fLen_l, fInt_i, fAbs_i, fMax_i, fMin_i, fTuple_t, fTuple_l, fList_t, fList_l, fRepS_s, seqOf_t, seqOf_l, truD_b, truD_t, truD_l, kTup_t, fIsN_n, fIsi_non_int, fIsi_non_bool, fIsi_non_str, fIsi_non_tuple, fIsi_non_list, fIsi_bl_int, fIsi_bl_bool, fIsi_bl_str, fIsi_bl_tuple, fIsi_bl_list, fIsi_int_int, fIsi_int_bool, fIsi_int_str, fIsi_int_tuple, fIsi_int_list, fIsi_str_int, fIsi_str_bool, fIsi_str_str, fIsi_str_tuple, fIsi_str_list, fIsi_tup_int, fIsi_tup_bool, fIsi_tup_str, fIsi_tup_tuple, fIsi_tup_list, fIsi_lst_int, fIsi_lst_bool, fIsi_lst_str, fIsi_lst_tuple, fIsi_lst_list, isN, fIx_sy0, fIx_sy1, ite_tt, ite_ff]
        refine ⟨r, rfl, pr.ne, by omega, r, rfl, pr.ne, by omega, by simp, by simp, _, rfl, rfl, by show 3 ≤ 90000; decide, ?_⟩
        simp only [aSeq, aSet, aC, aVar, aOp, aTest, aTru, aAnd, aOr, aNot, aAndV, aOrV, aNotV, aIfE, aNil, aCons, aTup, aLst, aLstB, aUn, aCa, aSl, aNo, aPart, aM, aML, aRet, aRetN, aIf, aDo, aNext, aCont, aBrk, aAsg, aCall, aCallX, aMeth, aFld, aSetFld, aFldAug, aAug, aRaise, aMake, aYes, kName, kCons, kNil, kSub, nth, put, wipeD, asT_b, fAdd_i, fAdd_s, fAdd_t, fAdd_l, fSub_i, fLt_i, fLe_i, fGt_i, fGe_i, fMul_i, fMod_i, fFdiv_i, fPow_i, fNeg_i, fEq_i, fEq_s, fEq_b, fNe_i, fNe_s, fNe_b, fIn_s, fNi_s, fIx_t0, fIx_t1, fIx_t2, fIx_l0, fIx_l1, fSl_s, fSl_t, fSl_l, fLen_t, fLen_l, fInt_i, fAbs_i, fMax_i, fMin_i, fTuple_t, fTuple_l, fList_t, fList_l, fRepS_s, seqOf_t, seqOf_l, truD_b, truD_t, truD_l, kTup_t, fIsN_n, fIsi_non_int, fIsi_non_bool, fIsi_non_str, fIsi_non_tuple, fIsi_non_list, fIsi_bl_int, fIsi_bl_bool, fIsi_bl_str, fIsi_bl_tuple, fIsi_bl_list, fIsi_int_int, fIsi_int_bool, fIsi_int_str, fIsi_int_tuple, fIsi_int_list, fIsi_str_int, fIsi_str_bool, fIsi_str_str, fIsi_str_tuple, fIsi_str_list, fIsi_tup_int, fIsi_tup_bool, fIsi_tup_str, fIsi_tup_tuple, fIsi_tup_list, fIsi_lst_int, fIsi_lst_bool, fIsi_lst_str, fIsi_lst_tuple, fIsi_lst_list, isN, fIx_sy0, fIx_sy1, ite_tt, ite_ff, truD_b, Bool.not_true, Bool.false_eq_true, reduceIte]
        exact ⟨by trivial, by trivial⟩
      rintro g m11 ⟨rfl, rfl⟩
      simp only [G]
      simp only [aSeq, aSet, aC, aVar, aOp, aTest, aTru, aAnd, aOr, aNot, aAndV, aOrV, aNotV, aIfE, aNil, aCons, aTup, aLst, aLstB, aUn, aCa, aSl, aNo, aPart, aM, aML, aRet, aRetN, aIf, aDo, aNext, aCont, aBrk, aAsg, aCall, aCallX, aMeth, aFld, aSetFld, aFldAug, aAug, aRaise, aMake, aYes, kName, kCons, kNil, kSub, nth, put, wipeD, asT_b, fAdd_i, fAdd_s, fAdd_t, fAdd_l, fSub_i, fLt_i, fLe_i, fGt_i, fGe_i, fMul_i, fMod_i, fFdiv_i, fPow_i, fNeg_i, fEq_i, fEq_s, fEq_b, fNe_i, fNe_s, fNe_b, fIn_s, fNi_s, fIx_t0, fIx_t1, fIx_t2, fIx_l0, fIx_l1, fSl_s, fSl_t, fSl_l, fLen_t, fLen_l, fInt_i, fAbs_i, fMax_i, fMin_i, fTuple_t, fTuple_l, fList_t, fList_l, fRepS_s, seqOf_t, seqOf_l, truD_b, truD_t, truD_l, kTup_t, fIsN_n, fIsi_non_int, fIsi_non_bool, fIsi_non_str, fIsi_non_tuple, fIsi_non_list, fIsi_bl_int, fIsi_bl_bool, fIsi_bl_str, fIsi_bl_tuple, fIsi_bl_list, fIsi_int_int, fIsi_int_bool, fIsi_int_str, fIsi_int_tuple, fIsi_int_list, fIsi_str_int, fIsi_str_bool, fIsi_str_str, fIsi_str_tuple, fIsi_str_list, fIsi_tup_int, fIsi_tup_bool, fIsi_tup_str, fIsi_tup_tuple, fIsi_tup_list, fIsi_lst_int, fIsi_lst_bool, fIsi_lst_str, fIsi_lst_tuple, fIsi_lst_list, isN, fIx_sy0, fIx_sy1, ite_tt, ite_ff]
      refine ⟨c, s, _, rfl, ls.tp, by rw [tx_len]; omega, fun z1 n1 hz1 t1 => ?_⟩
      refine ⟨c, s, _, rfl, t1.tp, by rw [tx_len]; omega, fun z2 n2 hz2 t2 => ?_⟩
      refine ⟨c, s, _, rfl, t2.tp, by rw [tx_len]; omega, fun z3 n3 hz3 t3 => ?_⟩
      refine ⟨c, s, _, rfl, t3.tp, by rw [tx_len] at hz3; omega, fun z4 n4 hz4 t4 => ?_⟩
      rw [tx_len] at hz1 hz2 hz3
      have lsn := ls.go hc hs (((t1.trans t2).trans t3).trans t4)
      rw [fAddB_bl lsn.hp]
      refine ⟨by simp, by rw [hL]; show 4 * i + 4 ≤ _; omega, fun q hq => ⟨q, _, _, _, rfl, LS.mk' lsn.tp lsn.sub hq, ?_, ?_, ?_⟩⟩
      · rw [List.length_append, hL]
        show 4 * i + 4 = _
        omega
      · intro d hd
        rcases List.mem_append.mp hd with h | h
        · exact hT d h
        · simp only [List.mem_cons, List.not_mem_nil, or_false] at h
          rcases h with rfl | rfl | rfl | rfl
          · exact ⟨_, rfl, by rw [tx_len]; omega⟩
          · exact ⟨_, rfl, by omega⟩
          · exact ⟨_, rfl, by omega⟩
          · exact ⟨_, rfl, by omega⟩
      · intro j r2 hj hr2
        by_cases hji : j = i
        · subst hji
          rw [hr] at hr2
          cases hr2
          rw [List.getElem?_append_right (by omega), hL, Nat.sub_self]
          rfl
        · rw [List.getElem?_append_left (by omega)]
          exact hE j r2 (by omega) hr2
    · rintro g m9 ⟨p, L, x8, x11, rfl, ls, hL, hT, hE⟩
      have hL : L.length = 12 := hL
      exact ⟨p, L, x8, x11, rfl, ls, hL, by rw [hL]; decide, hT, hE 0 tall (show 0 < 3 by decide) rfl, hE 1 mask (show 1 < 3 by decide) rfl, hE 2 few (show 2 < 3 by decide) rfl⟩
  rintro g m9 ⟨p, L, x8, x11, rfl, ls, hL, hN⟩
  refine cut_plain ?_
  simp only [G]
  simp only [aSeq, aSet, aC, aVar, aOp, aTest, aTru, aAnd, aOr, aNot, aAndV, aOrV, aNotV, aIfE, aNil, aCons, aTup, aLst, aLstB, aUn, aCa, aSl, aNo, aPart, aM, aML, aRet, aRetN, aIf, aDo, aNext, aCont, aBrk, aAsg, aCall, aCallX, aMeth, aFld, aSetFld, aFldAug, aAug, aRaise, aMake, aYes, kName, kCons, kNil, kSub, nth, put, wipeD, asT_b, fAdd_i, fAdd_s, fAdd_t, fAdd_l, fSub_i, fLt_i, fLe_i, fGt_i, fGe_i, fMul_i, fMod_i, fFdiv_i, fPow_i, fNeg_i, fEq_i, fEq_s, fEq_b, fNe_i, fNe_s, fNe_b, fIn_s, fNi_s, fIx_t0, fIx_t1, fIx_t2, fIx_l0, fIx_l1, fSl_s, fSl_t, fSl_l, fLen_t, fLen_l, fInt_i, fAbs_i, fMax_i, fMin_i, fTuple_t, fTuple_l, fList_t, fList_l, fRepS_s, seqOf_t, seqOf_l, truD_b, truD_t, truD_l, kTup_t, fIsN_n, fIsi_non_int, fIsi_non_bool, fIsi_non_str, fIsi_non_tuple, fIsi_non_list, fIsi_bl_int, fIsi_bl_bool, fIsi_bl_str, fIsi_bl_tuple, fIsi_bl_list, fIsi_int_int, fIsi_int_bool, fIsi_int_str, fIsi_int_tuple, fIsi_int_list, fIsi_str_int, fIsi_str_bool, fIsi_str_str, fIsi_str_tuple, fIsi_str_list, fIsi_tup_int, fIsi_tup_bool, fIsi_tup_str, fIsi_tup_tuple, fIsi_tup_list, fIsi_lst_int, fIsi_lst_bool, fIsi_lst_str, fIsi_lst_tuple, fIsi_lst_list, isN, fIx_sy0, fIx_sy1, ite_tt, ite_ff]
  -- a text of drawn signs
  refine ⟨fun g m' => ∃ L, g = G (some (.box p)) x8 (some (.str "ab.?(),(),f1- ")) none x11 none none ∧ LS m m' c s p L ∧ L.length = 13 ∧ LN tall mask few L, ?_, ?_⟩
  · have hsl : (Str.ofString "ab.?(),(),f1- ").length = 14 := by decide
    simp only [aSeq, aSet, aC, aVar, aOp, aTest, aTru, aAnd, aOr, aNot, aAndV, aOrV, aNotV, aIfE, aNil, aCons, aTup, aLst, aLstB, aUn, aCa, aSl, aNo, aPart, aM, aML, aRet, aRetN, aIf, aDo, aNext, aCont, aBrk, aAsg, aCall, aCallX, aMeth, aFld, aSetFld, aFldAug, aAug, aRaise, aMake, aYes, kName, kCons, kNil, kSub, nth, put, wipeD, asT_b, fAdd_i, fAdd_s, fAdd_t, fAdd_l, fSub_i, fLt_i, fLe_i, fGt_i, fGe_i, fMul_i, fMod_i, fFdiv_i, fPow_i, fNeg_i, fEq_i, fEq_s, fEq_b, fNe_i, fNe_s, fNe_b, fIn_s, fNi_s, fIx_t0, fIx_t1, fIx_t2, fIx_l0, fIx_l1, fSl_s, fSl_t, fSl_l, fLen_t, fLen_l, fInt_i, fAbs_i, fMax_i, fMin_i, fTuple_t, fTuple_l, fList_t, fList_l, fRepS_s, seqOf_t, seqOf_l, truD_b, truD_t, truD_l, kTup_t, fIsN_n, fIsi_non_int, fIsi_non_bool, fIsi_non_str, fIsi_non_tuple, fIsi_non_list, fIsi_bl_int, fIsi_bl_bool, fIsi_bl_str, fIsi_bl_tuple, fIsi_bl_list, fIsi_int_int, fIsi_int_bool, fIsi_int_str, fIsi_int_tuple, fIsi_int_list, fIsi_str_int, fIsi_str_bool, fIsi_str_str, fIsi_str_tuple, fIsi_str_list, fIsi_tup_int, fIsi_tup_bool, fIsi_tup_str, fIsi_tup_tuple, fIsi_tup_list, fIsi_lst_int, fIsi_lst_bool, fIsi_lst_str, fIsi_lst_tuple, fIsi_lst_list, isN, fIx_sy0, fIx_sy1, ite_tt, ite_ff, aJoin, isL_b ls.hp, true_and]
    refine ⟨⟨_, rfl⟩, ?_⟩
    simp only [aLcR, aCons, aNil, aCall, aVar, aC, nth]
    refine ⟨c, s, 9, rfl, ls.tp, by decide, by decide, fun r m' r0 r1 t => ⟨by omega, by omega, fun q hq => ?_⟩⟩
    have ls1 := ls.go hc hs t
    refine lcR_draw (fun d => ∃ z : Str, d = .str z ∧ z.length ≤ 1) hq t.tp (by omega) (fun _ => trivial) (fun i m2 P hi tp2 hP => ?_) (fun acc m2 hacc hg t2 => ?_)
    · simp only [aSeq, aSet, aC, aVar, aOp, aTest, aTru, aAnd, aOr, aNot, aAndV, aOrV, aNotV, aIfE, aNil, aCons, aTup, aLst, aLstB, aUn, aCa, aSl, aNo, aPart, aM, aML, aRet, aRetN, aIf, aDo, aNext, aCont, aBrk, aAsg, aCall, aCallX, aMeth, aFld, aSetFld, aFldAug, aAug, aRaise, aMake, aYes, kName, kCons, kNil, kSub, nth, put, wipeD, asT_b, fAdd_i, fAdd_s, fAdd_t, fAdd_l, fSub_i, fLt_i, fLe_i, fGt_i, fGe_i, fMul_i, fMod_i, fFdiv_i, fPow_i, fNeg_i, fEq_i, fEq_s, fEq_b, fNe_i, fNe_s, fNe_b, fIn_s, fNi_s, fIx_t0, fIx_t1, fIx_t2, fIx_l0, fIx_l1, fSl_s, fSl_t, fSl_l, fLen_t, fLen_l, fInt_i, fAbs_i, fMax_i, fMin_i, fTuple_t, fTuple_l, fList_t, fList_l, fRepS_s, seqOf_t, seqOf_l, truD_b, truD_t, truD_l, kTup_t, fIsN_n, fIsi_non_int, fIsi_non_bool, fIsi_non_str, fIsi_non_tuple, fIsi_non_list, fIsi_bl_int, fIsi_bl_bool, fIsi_bl_str, fIsi_bl_tuple, fIsi_bl_list, fIsi_int_int, fIsi_int_bool, fIsi_int_str, fIsi_int_tuple, fIsi_int_list, fIsi_str_int, fIsi_str_bool, fIsi_str_str, fIsi_str_tuple, fIsi_str_list, fIsi_tup_int, fIsi_tup_bool, fIsi_tup_str, fIsi_tup_tuple, fIsi_tup_list, fIsi_lst_int, fIsi_lst_bool, fIsi_lst_str, fIsi_lst_tuple, fIsi_lst_list, isN, fIx_sy0, fIx_sy1, ite_tt, ite_ff, wipeD, fLen_s (show (Str.ofString "ab.?(),(),f1- ").length ≤ 1000000 by decide), hsl]
      refine ⟨c, s, 14, rfl, tp2, by decide, by decide, fun j m3 j0 j1 t3 => ?_⟩
      obtain ⟨d, hd, _⟩ := atI_mem (xs := (Str.ofString "ab.?(),(),f1- ").cps.toList) (i := j) j0 (by rw [str_len, hsl]; exact j1)
      rw [fIx_s (by rw [hsl]; decide) hd]
      exact hP _ m3 ⟨_, rfl, Nat.le_refl 1⟩ t3
    · rw [if_pos (by trivial)]
      have ls2 := ls1.go hc hs t2
      refine fJoin_ok (n := 1) (k := 9) seqOf_l hg (by omega) (by decide) fun z hz => ?_
      rw [fApp_b ls2.hp]
      have hz' : z.length ≤ 17500 := Nat.le_trans hz (by decide)
      exact ⟨by rw [hL]; decide, _, rfl, ls2.set, by rw [List.length_append, hL]; rfl, hN.add (fun d hd => ⟨z, List.mem_singleton.mp hd, hz'⟩) (by rw [hL]; (show 12 + 1 ≤ 40; decide))⟩
  rintro g m10 ⟨L1, rfl, ls1, hL1, hN1⟩
  -- six texts built
  refine ⟨fun g m' => ∃ p L, g = G (some (.box p)) x8 (some (.str "ab.?(),(),f1- ")) none x11 none none ∧ LS m m' c s p L ∧ L.length = 19 ∧ LN tall mask few L, ?_, ?_⟩
  · simp only [G, aSet, aOp, aVar, nth, aLcR, aCons, aNil, aC]
    refine ⟨by decide, by decide, fun q hq => ?_⟩
    refine lcR_draw (fun d => ∃ z : Str, d = .str z ∧ z.length ≤ 2000) hq ls1.tp (by decide) (fun _ => trivial) (fun i m2 P hi tp2 hP => ?_) (fun acc m2 hacc hg t2 => ?_)
    · simp only [aSeq, aSet, aC, aVar, aOp, aTest, aTru, aAnd, aOr, aNot, aAndV, aOrV, aNotV, aIfE, aNil, aCons, aTup, aLst, aLstB, aUn, aCa, aSl, aNo, aPart, aM, aML, aRet, aRetN, aIf, aDo, aNext, aCont, aBrk, aAsg, aCall, aCallX, aMeth, aFld, aSetFld, aFldAug, aAug, aRaise, aMake, aYes, kName, kCons, kNil, kSub, nth, put, wipeD, asT_b, fAdd_i, fAdd_s, fAdd_t, fAdd_l, fSub_i, fLt_i, fLe_i, fGt_i, fGe_i, fMul_i, fMod_i, fFdiv_i, fPow_i, fNeg_i, fEq_i, fEq_s, fEq_b, fNe_i, fNe_s, fNe_b, fIn_s, fNi_s, fIx_t0, fIx_t1, fIx_t2, fIx_l0, fIx_l1, fSl_s, fSl_t, fSl_l, fLen_t, fLen_l, fInt_i, fAbs_i, fMax_i, fMin_i, fTuple_t, fTuple_l, fList_t, fList_l, fRepS_s, seqOf_t, seqOf_l, truD_b, truD_t, truD_l, kTup_t, fIsN_n, fIsi_non_int, fIsi_non_bool, fIsi_non_str, fIsi_non_tuple, fIsi_non_list, fIsi_bl_int, fIsi_bl_bool, fIsi_bl_str, fIsi_bl_tuple, fIsi_bl_list, fIsi_int_int, fIsi_int_bool, fIsi_int_str, fIsi_int_tuple, fIsi_int_list, fIsi_str_int, fIsi_str_bool, fIsi_str_str, fIsi_str_tuple, fIsi_str_list, fIsi_tup_int, fIsi_tup_bool, fIsi_tup_str, fIsi_tup_tuple, fIsi_tup_list, fIsi_lst_int, fIsi_lst_bool, fIsi_lst_str, fIsi_lst_tuple, fIsi_lst_list, isN, fIx_sy0, fIx_sy1, ite_tt, ite_ff, wipeD]
      exact ⟨c, s, rfl, tp2, fun z m3 hz t3 => hP _ m3 ⟨z, rfl, hz⟩ t3⟩
    · rw [if_pos (by trivial)]
      have ls2 := ls1.go hc hs t2
      have hacc : acc.length = 6 := hacc
      rw [fAddB_bl ls2.hp]
      refine ⟨by rw [hL1, hacc]; decide, fun q2 hq2 => ⟨q2, _, rfl, LS.mk' ls2.tp ls2.sub hq2, by rw [List.length_append, hL1, hacc], hN1.add (fun d hd => ?_) (by rw [hL1, hacc]; decide)⟩⟩
      obtain ⟨z, h1, h2⟩ := hg d hd
      exact ⟨z, h1, by omega⟩
  rintro g m11 ⟨p2, L2, rfl, ls2, hL2, hN2⟩
  -- limbs
  refine ⟨fun g m' => ∃ X, X.length ≤ 6 ∧ txtsN 4 X ∧ g = G (some (.box p2)) x8 (some (.str "ab.?(),(),f1- ")) (some (.lst X)) x11 none none ∧ LS m m' c s p2 L2, ?_, ?_⟩
  · simp only [G, aSet, aOp, aVar, nth, aLcR, aCons, aNil, aC, aCall]
    refine ⟨c, s, 4, rfl, ls2.tp, by decide, by decide, fun r m' r0 r1 t => ?_⟩
    simp only [aSeq, aSet, aC, aVar, aOp, aTest, aTru, aAnd, aOr, aNot, aAndV, aOrV, aNotV, aIfE, aNil, aCons, aTup, aLst, aLstB, aUn, aCa, aSl, aNo, aPart, aM, aML, aRet, aRetN, aIf, aDo, aNext, aCont, aBrk, aAsg, aCall, aCallX, aMeth, aFld, aSetFld, aFldAug, aAug, aRaise, aMake, aYes, kName, kCons, kNil, kSub, nth, put, wipeD, asT_b, fAdd_i, fAdd_s, fAdd_t, fAdd_l, fSub_i, fLt_i, fLe_i, fGt_i, fGe_i, fMul_i, fMod_i, fFdiv_i, fPow_i, fNeg_i, fEq_i, fEq_s, fEq_b, fNe_i, fNe_s, fNe_b, fIn_s, fNi_s, fIx_t0, fIx_t1, fIx_t2, fIx_l0, fIx_l1, fSl_s, fSl_t, fSl_l, fLen_t, fLen_l, fInt_i, fAbs_i, fMax_i, fMin_i, fTuple_t, fTuple_l, fList_t, fList_l, fRepS_s, seqOf_t, seqOf_l, truD_b, truD_t, truD_l, kTup_t, fIsN_n, fIsi_non_int, fIsi_non_bool, fIsi_non_str, fIsi_non_tuple, fIsi_non_list, fIsi_bl_int, fIsi_bl_bool, fIsi_bl_str, fIsi_bl_tuple, fIsi_bl_list, fIsi_int_int, fIsi_int_bool, fIsi_int_str, fIsi_int_tuple, fIsi_int_list, fIsi_str_int, fIsi_str_bool, fIsi_str_str, fIsi_str_tuple, fIsi_str_list, fIsi_tup_int, fIsi_tup_bool, fIsi_tup_str, fIsi_tup_tuple, fIsi_tup_list, fIsi_lst_int, fIsi_lst_bool, fIsi_lst_str, fIsi_lst_tuple, fIsi_lst_list, isN, fIx_sy0, fIx_sy1, ite_tt, ite_ff]
    refine ⟨by omega, by omega, fun q hq => ?_⟩
    have ls3 := ls2.go hc hs t
    refine lcR_draw (fun d => ∃ z : Str, d = .str z ∧ z.length ≤ 4) hq t.tp (by omega) (fun _ => trivial) (fun i m2 P hi tp2 hP => ?_) (fun acc m2 hacc hg t2 => ?_)
    · simp only [aSeq, aSet, aC, aVar, aOp, aTest, aTru, aAnd, aOr, aNot, aAndV, aOrV, aNotV, aIfE, aNil, aCons, aTup, aLst, aLstB, aUn, aCa, aSl, aNo, aPart, aM, aML, aRet, aRetN, aIf, aDo, aNext, aCont, aBrk, aAsg, aCall, aCallX, aMeth, aFld, aSetFld, aFldAug, aAug, aRaise, aMake, aYes, kName, kCons, kNil, kSub, nth, put, wipeD, asT_b, fAdd_i, fAdd_s, fAdd_t, fAdd_l, fSub_i, fLt_i, fLe_i, fGt_i, fGe_i, fMul_i, fMod_i, fFdiv_i, fPow_i, fNeg_i, fEq_i, fEq_s, fEq_b, fNe_i, fNe_s, fNe_b, fIn_s, fNi_s, fIx_t0, fIx_t1, fIx_t2, fIx_l0, fIx_l1, fSl_s, fSl_t, fSl_l, fLen_t, fLen_l, fInt_i, fAbs_i, fMax_i, fMin_i, fTuple_t, fTuple_l, fList_t, fList_l, fRepS_s, seqOf_t, seqOf_l, truD_b, truD_t, truD_l, kTup_t, fIsN_n, fIsi_non_int, fIsi_non_bool, fIsi_non_str, fIsi_non_tuple, fIsi_non_list, fIsi_bl_int, fIsi_bl_bool, fIsi_bl_str, fIsi_bl_tuple, fIsi_bl_list, fIsi_int_int, fIsi_int_bool, fIsi_int_str, fIsi_int_tuple, fIsi_int_list, fIsi_str_int, fIsi_str_bool, fIsi_str_str, fIsi_str_tuple, fIsi_str_list, fIsi_tup_int, fIsi_tup_bool, fIsi_tup_str, fIsi_tup_tuple, fIsi_tup_list, fIsi_lst_int, fIsi_lst_bool, fIsi_lst_str, fIsi_lst_tuple, fIsi_lst_list, isN, fIx_sy0, fIx_sy1, ite_tt, ite_ff, wipeD]
      refine ⟨by decide, c, s, 6, rfl, tp2, by decide, by decide, fun j m3 j0 j1 t3 => ?_⟩
      obtain ⟨d, hd, hm⟩ := atI_mem (xs := [D.str "a", .str "b-1", .str "f(a)", .str ".", .str "c", .str "?"]) j0 j1
      rw [fIx_l hd]
      refine hP d m3 ?_ t3
      simp only [List.mem_cons, List.not_mem_nil, or_false] at hm
      rcases hm with rfl | rfl | rfl | rfl | rfl | rfl <;> exact ds_len _ _
    · rw [if_pos (by trivial)]
      exact ⟨acc, by omega, hg, by trivial, ls3.go hc hs t2⟩
  rintro g m12 ⟨X, hX, hXs, rfl, ls3⟩
  refine ⟨fun g m' => ∃ L, g = G (some (.box p2)) x8 (some (.str "ab.?(),(),f1- ")) (some (.lst X)) x11 none none ∧ LS m m' c s p2 L ∧ LN tall mask few L, ?_, ?_⟩
  · simp only [G]
    simp only [aSeq, aSet, aC, aVar, aOp, aTest, aTru, aAnd, aOr, aNot, aAndV, aOrV, aNotV, aIfE, aNil, aCons, aTup, aLst, aLstB, aUn, aCa, aSl, aNo, aPart, aM, aML, aRet, aRetN, aIf, aDo, aNext, aCont, aBrk, aAsg, aCall, aCallX, aMeth, aFld, aSetFld, aFldAug, aAug, aRaise, aMake, aYes, kName, kCons, kNil, kSub, nth, put, wipeD, asT_b, fAdd_i, fAdd_s, fAdd_t, fAdd_l, fSub_i, fLt_i, fLe_i, fGt_i, fGe_i, fMul_i, fMod_i, fFdiv_i, fPow_i, fNeg_i, fEq_i, fEq_s, fEq_b, fNe_i, fNe_s, fNe_b, fIn_s, fNi_s, fIx_t0, fIx_t1, fIx_t2, fIx_l0, fIx_l1, fSl_s, fSl_t, fSl_l, fLen_t, fLen_l, fInt_i, fAbs_i, fMax_i, fMin_i, fTuple_t, fTuple_l, fList_t, fList_l, fRepS_s, seqOf_t, seqOf_l, truD_b, truD_t, truD_l, kTup_t, fIsN_n, fIsi_non_int, fIsi_non_bool, fIsi_non_str, fIsi_non_tuple, fIsi_non_list, fIsi_bl_int, fIsi_bl_bool, fIsi_bl_str, fIsi_bl_tuple, fIsi_bl_list, fIsi_int_int, fIsi_int_bool, fIsi_int_str, fIsi_int_tuple, fIsi_int_list, fIsi_str_int, fIsi_str_bool, fIsi_str_str, fIsi_str_tuple, fIsi_str_list, fIsi_tup_int, fIsi_tup_bool, fIsi_tup_str, fIsi_tup_tuple, fIsi_tup_list, fIsi_lst_int, fIsi_lst_bool, fIsi_lst_str, fIsi_lst_tuple, fIsi_lst_list, isN, fIx_sy0, fIx_sy1, ite_tt, ite_ff, aJoin, isL_b ls3.hp, true_and]
    refine ⟨⟨_, rfl⟩, ?_⟩
    refine fJoin_ok (n := 4) (k := 6) seqOf_l hXs hX (by decide) fun z hz => ?_
    have q1 : (Str.ofString "g(").length = 2 := by decide
    have q2 : (Str.ofString ")").length = 1 := by decide
    have hz : z.length ≤ 30 := Nat.le_trans hz (by decide)
    simp only [aSeq, aSet, aC, aVar, aOp, aTest, aTru, aAnd, aOr, aNot, aAndV, aOrV, aNotV, aIfE, aNil, aCons, aTup, aLst, aLstB, aUn, aCa, aSl, aNo, aPart, aM, aML, aRet, aRetN, aIf, aDo, aNext, aCont, aBrk, aAsg, aCall, aCallX, aMeth, aFld, aSetFld, aFldAug, aAug, aRaise, aMake, aYes, kName, kCons, kNil, kSub, nth, put, wipeD, asT_b, fAdd_i, fAdd_s, fAdd_t, fAdd_l, fSub_i, fLt_i, fLe_i, fGt_i, fGe_i, fMul_i, fMod_i, fFdiv_i, fPow_i, fNeg_i, fEq_i, fEq_s, fEq_b, fNe_i, fNe_s, fNe_b, fIn_s, fNi_s, fIx_t0, fIx_t1, fIx_t2, fIx_l0, fIx_l1, fSl_s, fSl_t, fSl_l, fLen_t, fLen_l, fInt_i, fAbs_i, fMax_i, fMin_i, fTuple_t, fTuple_l, fList_t, fList_l, fRepS_s, seqOf_t, seqOf_l, truD_b, truD_t, truD_l, kTup_t, fIsN_n, fIsi_non_int, fIsi_non_bool, fIsi_non_str, fIsi_non_tuple, fIsi_non_list, fIsi_bl_int, fIsi_bl_bool, fIsi_bl_str, fIsi_bl_tuple, fIsi_bl_list, fIsi_int_int, fIsi_int_bool, fIsi_int_str, fIsi_int_tuple, fIsi_int_list, fIsi_str_int, fIsi_str_bool, fIsi_str_str, fIsi_str_tuple, fIsi_str_list, fIsi_tup_int, fIsi_tup_bool, fIsi_tup_str, fIsi_tup_tuple, fIsi_tup_list, fIsi_lst_int, fIsi_lst_bool, fIsi_lst_str, fIsi_lst_tuple, fIsi_lst_list, isN, fIx_sy0, fIx_sy1, ite_tt, ite_ff, str_add, q1, q2, fApp_b ls3.hp]
    exact ⟨by omega, by omega, by rw [hL2]; decide, L2 ++ [.str (Str.ofString "g(" ++ z ++ Str.ofString ")")], by first | exact ⟨trivial, ls3.set, hN2.add (fun d hd => ⟨_, List.mem_singleton.mp hd, by rw [str_add, str_add, q1, q2]; omega⟩) (by rw [hL2]; (show 19 + 1 ≤ 40; decide))⟩ | exact ⟨ls3.set, hN2.add (fun d hd => ⟨_, List.mem_singleton.mp hd, by rw [str_add, str_add, q1, q2]; omega⟩) (by rw [hL2]; (show 19 + 1 ≤ 40; decide))⟩⟩
  rintro g m13 ⟨L3, rfl, ls4, hN3⟩
  -- each is right
  refine ⟨fun g m' => ∃ x, g = G (some (.box p2)) x8 (some (.str "ab.?(),(),f1- ")) (some (.lst X)) x none none ∧ m' = m13, ?_, ?_⟩
  · simp only [aFor, aVar, nth, G]
    refine ⟨L3, seqOf_b ls4.hp, fun i g m' => ∃ x, g = G (some (.box p2)) x8 (some (.str "ab.?(),(),f1- ")) (some (.lst X)) x none none ∧ m' = m13, ⟨_, rfl, rfl⟩, fun i g' m' _ h => (by obtain ⟨x, _, rfl⟩ := h; exact seqOf_b ls4.hp), ?_, fun g' m' h => h⟩
    rintro i x g m' hx ⟨y, rfl, rfl⟩
    obtain ⟨z, rfl, hz⟩ := hN3.ts x (List.mem_of_getElem? hx)
    simp only [G]
    simp only [aSeq, aSet, aC, aVar, aOp, aTest, aTru, aAnd, aOr, aNot, aAndV, aOrV, aNotV, aIfE, aNil, aCons, aTup, aLst, aLstB, aUn, aCa, aSl, aNo, aPart, aM, aML, aRet, aRetN, aIf, aDo, aNext, aCont, aBrk, aAsg, aCall, aCallX, aMeth, aFld, aSetFld, aFldAug, aAug, aRaise, aMake, aYes, kName, kCons, kNil, kSub, nth, put, wipeD, asT_b, fAdd_i, fAdd_s, fAdd_t, fAdd_l, fSub_i, fLt_i, fLe_i, fGt_i, fGe_i, fMul_i, fMod_i, fFdiv_i, fPow_i, fNeg_i, fEq_i, fEq_s, fEq_b, fNe_i, fNe_s, fNe_b, fIn_s, fNi_s, fIx_t0, fIx_t1, fIx_t2, fIx_l0, fIx_l1, fSl_s, fSl_t, fSl_l, fLen_t, fLen_l, fInt_i, fAbs_i, fMax_i, fMin_i, fTuple_t, fTuple_l, fList_t, fList_l, fRepS_s, seqOf_t, seqOf_l, truD_b, truD_t, truD_l, kTup_t, fIsN_n, fIsi_non_int, fIsi_non_bool, fIsi_non_str, fIsi_non_tuple, fIsi_non_list, fIsi_bl_int, fIsi_bl_bool, fIsi_bl_str, fIsi_bl_tuple, fIsi_bl_list, fIsi_int_int, fIsi_int_bool, fIsi_int_str, fIsi_int_tuple, fIsi_int_list, fIsi_str_int, fIsi_str_bool, fIsi_str_str, fIsi_str_tuple, fIsi_str_list, fIsi_tup_int, fIsi_tup_bool, fIsi_tup_str, fIsi_tup_tuple, fIsi_tup_list, fIsi_lst_int, fIsi_lst_bool, fIsi_lst_str, fIsi_lst_tuple, fIsi_lst_list, isN, fIx_sy0, fIx_sy1, ite_tt, ite_ff]
    refine ⟨z, rfl, by omega, ?_⟩
    simp only [aSeq, aSet, aC, aVar, aOp, aTest, aTru, aAnd, aOr, aNot, aAndV, aOrV, aNotV, aIfE, aNil, aCons, aTup, aLst, aLstB, aUn, aCa, aSl, aNo, aPart, aM, aML, aRet, aRetN, aIf, aDo, aNext, aCont, aBrk, aAsg, aCall, aCallX, aMeth, aFld, aSetFld, aFldAug, aAug, aRaise, aMake, aYes, kName, kCons, kNil, kSub, nth, put, wipeD, asT_b, fAdd_i, fAdd_s, fAdd_t, fAdd_l, fSub_i, fLt_i, fLe_i, fGt_i, fGe_i, fMul_i, fMod_i, fFdiv_i, fPow_i, fNeg_i, fEq_i, fEq_s, fEq_b, fNe_i, fNe_s, fNe_b, fIn_s, fNi_s, fIx_t0, fIx_t1, fIx_t2, fIx_l0, fIx_l1, fSl_s, fSl_t, fSl_l, fLen_t, fLen_l, fInt_i, fAbs_i, fMax_i, fMin_i, fTuple_t, fTuple_l, fList_t, fList_l, fRepS_s, seqOf_t, seqOf_l, truD_b, truD_t, truD_l, kTup_t, fIsN_n, fIsi_non_int, fIsi_non_bool, fIsi_non_str, fIsi_non_tuple, fIsi_non_list, fIsi_bl_int, fIsi_bl_bool, fIsi_bl_str, fIsi_bl_tuple, fIsi_bl_list, fIsi_int_int, fIsi_int_bool, fIsi_int_str, fIsi_int_tuple, fIsi_int_list, fIsi_str_int, fIsi_str_bool, fIsi_str_str, fIsi_str_tuple, fIsi_str_list, fIsi_tup_int, fIsi_tup_bool, fIsi_tup_str, fIsi_tup_tuple, fIsi_tup_list, fIsi_lst_int, fIsi_lst_bool, fIsi_lst_str, fIsi_lst_tuple, fIsi_lst_list, isN, fIx_sy0, fIx_sy1, ite_tt, ite_ff, truD_b, Bool.not_true, Bool.false_eq_true, reduceIte]
    exact ⟨_, by trivial, by trivial⟩
  rintro g m14 ⟨x, rfl, rfl⟩
  -- by name
  refine ⟨fun g m' => ∃ x, g = G (some (.box p2)) x8 (some (.str "ab.?(),(),f1- ")) (some (.lst X)) x (some (.tup [rowD tall, rowD mask, rowD few])) none ∧ m' = m14, ?_, ?_⟩
  · have i0 : atI L3 0 = some (.str (tx (sh tall []))) := atI_nn (i := 0) hN3.e0
    have i4 : atI L3 4 = some (.str (tx (sh mask []))) := atI_nn (i := 4) hN3.e4
    have i8 : atI L3 8 = some (.str (tx (sh few []))) := atI_nn (i := 8) hN3.e8
    simp only [G]
    simp only [aSeq, aSet, aC, aVar, aOp, aTest, aTru, aAnd, aOr, aNot, aAndV, aOrV, aNotV, aIfE, aNil, aCons, aTup, aLst, aLstB, aUn, aCa, aSl, aNo, aPart, aM, aML, aRet, aRetN, aIf, aDo, aNext, aCont, aBrk, aAsg, aCall, aCallX, aMeth, aFld, aSetFld, aFldAug, aAug, aRaise, aMake, aYes, kName, kCons, kNil, kSub, nth, put, wipeD, asT_b, fAdd_i, fAdd_s, fAdd_t, fAdd_l, fSub_i, fLt_i, fLe_i, fGt_i, fGe_i, fMul_i, fMod_i, fFdiv_i, fPow_i, fNeg_i, fEq_i, fEq_s, fEq_b, fNe_i, fNe_s, fNe_b, fIn_s, fNi_s, fIx_t0, fIx_t1, fIx_t2, fIx_l0, fIx_l1, fSl_s, fSl_t, fSl_l, fLen_t, fLen_l, fInt_i, fAbs_i, fMax_i, fMin_i, fTuple_t, fTuple_l, fList_t, fList_l, fRepS_s, seqOf_t, seqOf_l, truD_b, truD_t, truD_l, kTup_t, fIsN_n, fIsi_non_int, fIsi_non_bool, fIsi_non_str, fIsi_non_tuple, fIsi_non_list, fIsi_bl_int, fIsi_bl_bool, fIsi_bl_str, fIsi_bl_tuple, fIsi_bl_list, fIsi_int_int, fIsi_int_bool, fIsi_int_str, fIsi_int_tuple, fIsi_int_list, fIsi_str_int, fIsi_str_bool, fIsi_str_str, fIsi_str_tuple, fIsi_str_list, fIsi_tup_int, fIsi_tup_bool, fIsi_tup_str, fIsi_tup_tuple, fIsi_tup_list, fIsi_lst_int, fIsi_lst_bool, fIsi_lst_str, fIsi_lst_tuple, fIsi_lst_list, isN, fIx_sy0, fIx_sy1, ite_tt, ite_ff, fIx_b ls4.hp i0, fIx_b ls4.hp i4, fIx_b ls4.hp i8]
    have l1 := pa.sh
    have l2 := pm.sh
    have l3 := pf.sh
    refine reads_ok (shown_read (fun s hs => good_p (ta3 s hs)) ta1) (by omega) ?_
    rw [fIx_b ls4.hp i4]
    refine reads_ok (shown_read (fun s hs => pat_p (pm.p s hs)) pm.w) (by omega) ?_
    rw [fIx_b ls4.hp i8]
    refine reads_ok (shown_read (fun s hs => pat_p (pf.p s hs)) pf.w) (by omega) ?_
    exact ⟨by simp, _, by trivial, by trivial⟩
  rintro g m15 ⟨x, rfl, rfl⟩
  simp only [G]
  simp only [aSeq, aSet, aC, aVar, aOp, aTest, aTru, aAnd, aOr, aNot, aAndV, aOrV, aNotV, aIfE, aNil, aCons, aTup, aLst, aLstB, aUn, aCa, aSl, aNo, aPart, aM, aML, aRet, aRetN, aIf, aDo, aNext, aCont, aBrk, aAsg, aCall, aCallX, aMeth, aFld, aSetFld, aFldAug, aAug, aRaise, aMake, aYes, kName, kCons, kNil, kSub, nth, put, wipeD, asT_b, fAdd_i, fAdd_s, fAdd_t, fAdd_l, fSub_i, fLt_i, fLe_i, fGt_i, fGe_i, fMul_i, fMod_i, fFdiv_i, fPow_i, fNeg_i, fEq_i, fEq_s, fEq_b, fNe_i, fNe_s, fNe_b, fIn_s, fNi_s, fIx_t0, fIx_t1, fIx_t2, fIx_l0, fIx_l1, fSl_s, fSl_t, fSl_l, fLen_t, fLen_l, fInt_i, fAbs_i, fMax_i, fMin_i, fTuple_t, fTuple_l, fList_t, fList_l, fRepS_s, seqOf_t, seqOf_l, truD_b, truD_t, truD_l, kTup_t, fIsN_n, fIsi_non_int, fIsi_non_bool, fIsi_non_str, fIsi_non_tuple, fIsi_non_list, fIsi_bl_int, fIsi_bl_bool, fIsi_bl_str, fIsi_bl_tuple, fIsi_bl_list, fIsi_int_int, fIsi_int_bool, fIsi_int_str, fIsi_int_tuple, fIsi_int_list, fIsi_str_int, fIsi_str_bool, fIsi_str_str, fIsi_str_tuple, fIsi_str_list, fIsi_tup_int, fIsi_tup_bool, fIsi_tup_str, fIsi_tup_tuple, fIsi_tup_list, fIsi_lst_int, fIsi_lst_bool, fIsi_lst_str, fIsi_lst_tuple, fIsi_lst_list, isN, fIx_sy0, fIx_sy1, ite_tt, ite_ff]
  have z1 := row_size tall
  have z2 := row_size mask
  have z3 := row_size few
  have y1 := pa.l
  have y2 := pm.l
  have y3 := pf.l
  refine ⟨by simp, _, rfl, ?_, ?_, ?_⟩
  · show (pure? (rowD tall) && (pure? (rowD mask) && (pure? (rowD few) && pures? []))) = true
    rw [row_pure, row_pure, row_pure]
    rfl
  · show dsize (rowD tall) + (dsize (rowD mask) + (dsize (rowD few) + dsizes [])) + 1 ≤ 90000
    show dsize (rowD tall) + (dsize (rowD mask) + (dsize (rowD few) + 0)) + 1 ≤ 90000
    omega
  simp only [aSeq, aSet, aC, aVar, aOp, aTest, aTru, aAnd, aOr, aNot, aAndV, aOrV, aNotV, aIfE, aNil, aCons, aTup, aLst, aLstB, aUn, aCa, aSl, aNo, aPart, aM, aML, aRet, aRetN, aIf, aDo, aNext, aCont, aBrk, aAsg, aCall, aCallX, aMeth, aFld, aSetFld, aFldAug, aAug, aRaise, aMake, aYes, kName, kCons, kNil, kSub, nth, put, wipeD, asT_b, fAdd_i, fAdd_s, fAdd_t, fAdd_l, fSub_i, fLt_i, fLe_i, fGt_i, fGe_i, fMul_i, fMod_i, fFdiv_i, fPow_i, fNeg_i, fEq_i, fEq_s, fEq_b, fNe_i, fNe_s, fNe_b, fIn_s, fNi_s, fIx_t0, fIx_t1, fIx_t2, fIx_l0, fIx_l1, fSl_s, fSl_t, fSl_l, fLen_t, fLen_l, fInt_i, fAbs_i, fMax_i, fMin_i, fTuple_t, fTuple_l, fList_t, fList_l, fRepS_s, seqOf_t, seqOf_l, truD_b, truD_t, truD_l, kTup_t, fIsN_n, fIsi_non_int, fIsi_non_bool, fIsi_non_str, fIsi_non_tuple, fIsi_non_list, fIsi_bl_int, fIsi_bl_bool, fIsi_bl_str, fIsi_bl_tuple, fIsi_bl_list, fIsi_int_int, fIsi_int_bool, fIsi_int_str, fIsi_int_tuple, fIsi_int_list, fIsi_str_int, fIsi_str_bool, fIsi_str_str, fIsi_str_tuple, fIsi_str_list, fIsi_tup_int, fIsi_tup_bool, fIsi_tup_str, fIsi_tup_tuple, fIsi_tup_list, fIsi_lst_int, fIsi_lst_bool, fIsi_lst_str, fIsi_lst_tuple, fIsi_lst_list, isN, fIx_sy0, fIx_sy1, ite_tt, ite_ff]
  refine ⟨c, s, tall, rfl, ls4.tp, fun m' t => ?_⟩
  exact fzE.sub (ls4.sub.tp hc hs t) hq
end AL
set_option maxHeartbeats 4000000
namespace AL
open PySem L2 Evl
abbrev s_InvalidText_init : Stmt := L2.inClass (topS 5) 0
theorem sc_InvalidText_init : L2.FnScope ["self", "line", "at"] ["self", "line", "at"] (defScope s_InvalidText_init) := ⟨rfl, rfl, rfl, by decide +kernel, rfl, by decide +kernel, by decide +kernel⟩
theorem ok_InvalidText_init {P : Program} {w : World} {K : PySem.W.Frag} {mg : Str → Option Value} {base : Heap} {C f : Addr} {fd : FuncData} (F : L2.Fun K "__init__" "InvalidText.__init__" s_InvalidText_init f fd) (T : OexC K C) (n1 : PySem.W.findIn K (.ref C) "line" = some none) (n2 : PySem.W.findIn K (.ref C) "at" = some none) :
    FnOk P w K mg base (L2.CX P w) 1 f fd ["self", "line", "at"] (spI2 "line" "at" C) := by
  refine F.okX sc_InvalidText_init (fun vs H Q E h => ?_) (fun cdv A outer s H vs Q E hr h => ⟨_, pss_cons (ps_ost (pv 0) (pv 1)) (pss_one (ps_ost (pv 0) (pv 2))), ?_⟩)
  · obtain ⟨a, v1, v2, rfl, _⟩ := h
    rfl
  · obtain ⟨a, v1, v2, rfl, ha, hq⟩ := h
    exact ⟨v1, rfl, .ref a, rfl, a, C, rfl, T, n1, .inl ⟨ha, fun dx hd ne => ⟨v2, rfl, .ref a, rfl, a, C, rfl, T, n2, .inr ⟨dx, _, upd_same, (upd_ne ne).trans upd_same, by show 1 ≤ 900; decide, hq dx hd ne⟩⟩⟩⟩
abbrev s_NotUsable_init : Stmt := L2.inClass (topS 4) 0
theorem sc_NotUsable_init : L2.FnScope ["self", "word", "at"] ["self", "word", "at"] (defScope s_NotUsable_init) := ⟨rfl, rfl, rfl, by decide +kernel, rfl, by decide +kernel, by decide +kernel⟩
theorem ok_NotUsable_init {P : Program} {w : World} {K : PySem.W.Frag} {mg : Str → Option Value} {base : Heap} {C f : Addr} {fd : FuncData} (F : L2.Fun K "__init__" "NotUsable.__init__" s_NotUsable_init f fd) (T : OexC K C) (n1 : PySem.W.findIn K (.ref C) "word" = some none) (n2 : PySem.W.findIn K (.ref C) "at" = some none) :
    FnOk P w K mg base (L2.CX P w) 1 f fd ["self", "word", "at"] (spI2 "word" "at" C) := by
  refine F.okX sc_NotUsable_init (fun vs H Q E h => ?_) (fun cdv A outer s H vs Q E hr h => ⟨_, pss_cons (ps_ost (pv 0) (pv 1)) (pss_one (ps_ost (pv 0) (pv 2))), ?_⟩)
  · obtain ⟨a, v1, v2, rfl, _⟩ := h
    rfl
  · obtain ⟨a, v1, v2, rfl, ha, hq⟩ := h
    exact ⟨v1, rfl, .ref a, rfl, a, C, rfl, T, n1, .inl ⟨ha, fun dx hd ne => ⟨v2, rfl, .ref a, rfl, a, C, rfl, T, n2, .inr ⟨dx, _, upd_same, (upd_ne ne).trans upd_same, by show 1 ≤ 900; decide, hq dx hd ne⟩⟩⟩⟩
theorem exm_self {K : PySem.W.Frag} {S : Addr} (h1 : PySem.W.subIn K (.ref S) (.type "BaseException") = some true) (h2 : PySem.W.isClsIn K S = true) (h3 : PySem.W.typeIn K (.ref S) = some (.type "type")) (h4 : PySem.W.subIn K (.ref S) (.ref S) = some true) :
    PySem.W.exmOne K (.ref S) (.ref S) = some true := by
  have e1 : (PySem.W.subIn K (.ref S) (.type "BaseException") == some true) = true := by rw [h1] <;> rfl
  have e2 : ((PySem.W.clsIn K S).isSome && PySem.W.typeIn K (.ref S) == some (.type "type")) = true := by
    have h2' : (PySem.W.clsIn K S).isSome = true := h2
    rw [h2', h3] <;> rfl
  show (if (PySem.W.subIn K (.ref S) (.type "BaseException") == some true) = true then (if ((PySem.W.clsIn K S).isSome && PySem.W.typeIn K (.ref S) == some (.type "type")) = true then PySem.W.subIn K (.ref S) (.ref S) else none) else none) = some true
  rw [if_pos e1, if_pos e2]
  exact h4
theorem kit_sub {K : PySem.W.Frag} {C S : Addr} (h2 : PySem.W.isClsIn K S = true) (h3 : PySem.W.typeIn K (.ref S) = some (.type "type")) (h4 : PySem.W.subIn K (.ref C) (.ref S) = some true) : PySem.W.kitOne K (.ref C) (.ref S) = some true := by
  have e2 : ((PySem.W.clsIn K S).isSome && PySem.W.typeIn K (.ref S) == some (.type "type")) = true := by
    have h2' : (PySem.W.clsIn K S).isSome = true := h2
    rw [h2', h3] <;> rfl
  unfold PySem.W.kitOne
  split
  · rfl
  · show (if ((PySem.W.clsIn K S).isSome && PySem.W.typeIn K (.ref S) == some (.type "type")) = true then PySem.W.subIn K (.ref C) (.ref S) else none) = some true
    rw [if_pos e2]
    exact h4
theorem exm_no {K : PySem.W.Frag} {C S : Addr} (h1 : PySem.W.subIn K (.ref S) (.type "BaseException") = some true) (h2 : PySem.W.isClsIn K S = true) (h3 : PySem.W.typeIn K (.ref S) = some (.type "type")) (h4 : PySem.W.subIn K (.ref C) (.ref S) = some false) : PySem.W.exmOne K (.ref C) (.ref S) = some false := by
  have e1 : (PySem.W.subIn K (.ref S) (.type "BaseException") == some true) = true := by rw [h1] <;> rfl
  have e2 : ((PySem.W.clsIn K S).isSome && PySem.W.typeIn K (.ref S) == some (.type "type")) = true := by
    have h2' : (PySem.W.clsIn K S).isSome = true := h2
    rw [h2', h3] <;> rfl
  show (if (PySem.W.subIn K (.ref S) (.type "BaseException") == some true) = true then (if ((PySem.W.clsIn K S).isSome && PySem.W.typeIn K (.ref S) == some (.type "type")) = true then PySem.W.subIn K (.ref C) (.ref S) else none) else none) = some false
  rw [if_pos e1, if_pos e2]
  exact h4
theorem all_mk {P : Program} {w : World} {K : PySem.W.Frag} {h : Heap} {mg : Str → Option Value} {fa : Addr} (X : K.In h) (G : h.Ns mainGlobals mg) (hfa : mg "law" = some (.ref fa))
    {C_InvalidText C_NotUsable C_TextError C_TreeReader C_UseError A_law_tape A_law_pick A_law_marks A_law_tree A_law_far A_law_masked A_law_shown A_law_same A_law_turned A_shown A_law_built A_law_read A_need A_TreeReader_sign A_TreeReader_refuse A_TreeReader_read_word_rest A_TreeReader_read_symbol A_TreeReader_open_bracket A_TreeReader_read_ends A_TreeReader_read_all A_TreeReader_init A_read_tree A_read_pattern A_law_asks A_law_right A_law_refusals A_law A_InvalidText_init A_NotUsable_init A_cHOLE b_InvalidText_TextError b_InvalidText_StoodError b_NotUsable_UseError b_NotUsable_StoodError : Addr} {oc_InvalidText_init kV_InvalidText_init dc_InvalidText_init pm_InvalidText_init cd_InvalidText_init ct_InvalidText_init oc_NotUsable_init kV_NotUsable_init dc_NotUsable_init pm_NotUsable_init cd_NotUsable_init ct_NotUsable_init oc_law_tape kV_law_tape dc_law_tape pm_law_tape cd_law_tape ct_law_tape oc_law_pick kV_law_pick dc_law_pick pm_law_pick cd_law_pick ct_law_pick oc_law_marks kV_law_marks dc_law_marks pm_law_marks cd_law_marks ct_law_marks oc_law_tree kV_law_tree dc_law_tree pm_law_tree cd_law_tree ct_law_tree oc_law_far kV_law_far dc_law_far pm_law_far cd_law_far ct_law_far oc_law_masked kV_law_masked dc_law_masked pm_law_masked cd_law_masked ct_law_masked oc_law_shown kV_law_shown dc_law_shown pm_law_shown cd_law_shown ct_law_shown oc_law_same kV_law_same dc_law_same pm_law_same cd_law_same ct_law_same oc_law_turned kV_law_turned dc_law_turned pm_law_turned cd_law_turned ct_law_turned oc_shown kV_shown dc_shown pm_shown cd_shown ct_shown oc_law_built kV_law_built dc_law_built pm_law_built cd_law_built ct_law_built oc_law_read kV_law_read dc_law_read pm_law_read cd_law_read ct_law_read oc_need kV_need dc_need pm_need cd_need ct_need oc_TreeReader_sign kV_TreeReader_sign dc_TreeReader_sign pm_TreeReader_sign cd_TreeReader_sign ct_TreeReader_sign oc_TreeReader_refuse kV_TreeReader_refuse dc_TreeReader_refuse pm_TreeReader_refuse cd_TreeReader_refuse ct_TreeReader_refuse oc_TreeReader_read_word_rest kV_TreeReader_read_word_rest dc_TreeReader_read_word_rest pm_TreeReader_read_word_rest cd_TreeReader_read_word_rest ct_TreeReader_read_word_rest oc_TreeReader_read_symbol kV_TreeReader_read_symbol dc_TreeReader_read_symbol pm_TreeReader_read_symbol cd_TreeReader_read_symbol ct_TreeReader_read_symbol oc_TreeReader_open_bracket kV_TreeReader_open_bracket dc_TreeReader_open_bracket pm_TreeReader_open_bracket cd_TreeReader_open_bracket ct_TreeReader_open_bracket oc_TreeReader_read_ends kV_TreeReader_read_ends dc_TreeReader_read_ends pm_TreeReader_read_ends cd_TreeReader_read_ends ct_TreeReader_read_ends oc_TreeReader_read_all kV_TreeReader_read_all dc_TreeReader_read_all pm_TreeReader_read_all cd_TreeReader_read_all ct_TreeReader_read_all oc_TreeReader_init kV_TreeReader_init dc_TreeReader_init pm_TreeReader_init cd_TreeReader_init ct_TreeReader_init oc_read_tree kV_read_tree dc_read_tree pm_read_tree cd_read_tree ct_read_tree oc_read_pattern kV_read_pattern dc_read_pattern pm_read_pattern cd_read_pattern ct_read_pattern oc_law_asks kV_law_asks dc_law_asks pm_law_asks cd_law_asks ct_law_asks oc_law_right kV_law_right dc_law_right pm_law_right cd_law_right ct_law_right oc_law_refusals kV_law_refusals dc_law_refusals pm_law_refusals cd_law_refusals ct_law_refusals oc_law kV_law dc_law pm_law cd_law ct_law : Value} {gd_HOLE od_InvalidText_init an_InvalidText_init od_NotUsable_init an_NotUsable_init od_law_tape an_law_tape od_law_pick an_law_pick od_law_marks an_law_marks od_law_tree an_law_tree od_law_far an_law_far od_law_masked an_law_masked od_law_shown an_law_shown od_law_same an_law_same od_law_turned an_law_turned od_shown an_shown od_law_built an_law_built od_law_read an_law_read od_need an_need od_TreeReader_sign an_TreeReader_sign od_TreeReader_refuse an_TreeReader_refuse od_TreeReader_read_word_rest an_TreeReader_read_word_rest od_TreeReader_read_symbol an_TreeReader_read_symbol od_TreeReader_open_bracket an_TreeReader_open_bracket od_TreeReader_read_ends an_TreeReader_read_ends od_TreeReader_read_all an_TreeReader_read_all od_TreeReader_init an_TreeReader_init od_read_tree an_read_tree od_read_pattern an_read_pattern od_law_asks an_law_asks od_law_right an_law_right od_law_refusals an_law_refusals od_law an_law : Option Addr} {sl_InvalidText_init sl_NotUsable_init sl_law_tape sl_law_pick sl_law_marks sl_law_tree sl_law_far sl_law_masked sl_law_shown sl_law_same sl_law_turned sl_shown sl_law_built sl_law_read sl_need sl_TreeReader_sign sl_TreeReader_refuse sl_TreeReader_read_word_rest sl_TreeReader_read_symbol sl_TreeReader_open_bracket sl_TreeReader_read_ends sl_TreeReader_read_all sl_TreeReader_init sl_read_tree sl_read_pattern sl_law_asks sl_law_right sl_law_refusals sl_law : Array (Option Value)} {tk_HOLE_0 tk_HOLE_1 tk_LETTERS tk_LONGEST_WORD tk_MOST_PARTS tk_SILENT tk_WORD_SIGNS : Tok} {gn_HOLE : Nat} {gs_HOLE : Array (Option Value)} {nm_InvalidText q_InvalidText : Str} {N_InvalidText : Addr} {bs_InvalidText : List Value} {sn_InvalidText : List Str} {su_InvalidText : List Value} {ab_InvalidText : Bool} {co_InvalidText : Option Bool} {dd_InvalidText : Option Addr} {m0_InvalidText m1_InvalidText m2_InvalidText m3_InvalidText m5_InvalidText : Option Value} {nm_NotUsable q_NotUsable : Str} {N_NotUsable : Addr} {bs_NotUsable : List Value} {sn_NotUsable : List Str} {su_NotUsable : List Value} {ab_NotUsable : Bool} {co_NotUsable : Option Bool} {dd_NotUsable : Option Addr} {m0_NotUsable m1_NotUsable m2_NotUsable m3_NotUsable m5_NotUsable : Option Value}
    (aInvalidText : PySem.W.nsIn K mainGlobals "InvalidText" = some (some (.ref C_InvalidText)))
    (aNotUsable : PySem.W.nsIn K mainGlobals "NotUsable" = some (some (.ref C_NotUsable)))
    (aTextError : PySem.W.nsIn K mainGlobals "TextError" = some (some (.ref C_TextError)))
    (aTreeReader : PySem.W.nsIn K mainGlobals "TreeReader" = some (some (.ref C_TreeReader)))
    (aUseError : PySem.W.nsIn K mainGlobals "UseError" = some (some (.ref C_UseError)))
    (pgTreeReader : PySem.W.plainGet K C_TreeReader Str.empty = true)
    (hdTreeReader : PySem.W.hasDictIn K C_TreeReader = true)
    (poTreeReader : PySem.W.plainOver K C_TreeReader = true)
    (saTreeReader : PySem.W.findIn K (.ref C_TreeReader) "__setattr__" = some (some (.builtin "object.__setattr__")))
    (mkTreeReader : PySem.W.makesIn K C_TreeReader = true)
    (kcTreeReader : PySem.W.keepIn K (.ref C_TreeReader) = true)
    (na_TreeReader_at : PySem.W.findIn K (.ref C_TreeReader) "at" = some none)
    (na_TreeReader_entries : PySem.W.findIn K (.ref C_TreeReader) "entries" = some none)
    (na_TreeReader_open_entries : PySem.W.findIn K (.ref C_TreeReader) "open_entries" = some none)
    (na_TreeReader_single_signs : PySem.W.findIn K (.ref C_TreeReader) "single_signs" = some none)
    (na_TreeReader_text : PySem.W.findIn K (.ref C_TreeReader) "text" = some none)
    (g_HOLE : PySem.W.nsIn K mainGlobals "HOLE" = some (some (.ref A_cHOLE)))
    (gl_HOLE : K.lookup A_cHOLE = some ⟨.type "tuple", gd_HOLE, .seq #[.str "?" tk_HOLE_0, .int 0 tk_HOLE_1] gn_HOLE, gs_HOLE⟩)
    (g_LETTERS : PySem.W.nsIn K mainGlobals "LETTERS" = some (some (.str "abcdefghijklmnopqrstuvwxyz" tk_LETTERS)))
    (g_LONGEST_WORD : PySem.W.nsIn K mainGlobals "LONGEST_WORD" = some (some (.int 16 tk_LONGEST_WORD)))
    (g_MOST_PARTS : PySem.W.nsIn K mainGlobals "MOST_PARTS" = some (some (.int 4 tk_MOST_PARTS)))
    (g_SILENT : PySem.W.nsIn K mainGlobals "SILENT" = some (some (.str "." tk_SILENT)))
    (g_WORD_SIGNS : PySem.W.nsIn K mainGlobals "WORD_SIGNS" = some (some (.str "abcdefghijklmnopqrstuvwxyz0123456789-" tk_WORD_SIGNS)))
    (z_len : PySem.W.nsIn K mainGlobals "len" = some none)
    (z_int : PySem.W.nsIn K mainGlobals "int" = some none)
    (z_abs : PySem.W.nsIn K mainGlobals "abs" = some none)
    (z_max : PySem.W.nsIn K mainGlobals "max" = some none)
    (z_min : PySem.W.nsIn K mainGlobals "min" = some none)
    (z_bool : PySem.W.nsIn K mainGlobals "bool" = some none)
    (z_str : PySem.W.nsIn K mainGlobals "str" = some none)
    (z_tuple : PySem.W.nsIn K mainGlobals "tuple" = some none)
    (z_list : PySem.W.nsIn K mainGlobals "list" = some none)
    (z_range : PySem.W.nsIn K mainGlobals "range" = some none)
    (z_isinstance : PySem.W.nsIn K mainGlobals "isinstance" = some none)
    (gaInvalidText : PySem.W.findIn K (.ref C_InvalidText) "__getattribute__" = some (some (.builtin "BaseException.__getattribute__")))
    (ggInvalidText : PySem.W.findIn K (.ref C_InvalidText) "__getattr__" = some none)
    (eCInvalidText : PySem.W.subIn K (.ref C_InvalidText) (.type "BaseException") = some true)
    (tCInvalidText : PySem.W.typeIn K (.ref C_InvalidText) = some (.type "type"))
    (hCInvalidText : PySem.W.hasDictIn K C_InvalidText = true)
    (iCInvalidText : PySem.W.isClsIn K C_InvalidText = true)
    (sCInvalidText : PySem.W.subIn K (.ref C_InvalidText) (.ref C_InvalidText) = some true)
    (kCInvalidText : PySem.W.keepIn K (.ref C_InvalidText) = true)
    (gaNotUsable : PySem.W.findIn K (.ref C_NotUsable) "__getattribute__" = some (some (.builtin "BaseException.__getattribute__")))
    (ggNotUsable : PySem.W.findIn K (.ref C_NotUsable) "__getattr__" = some none)
    (eCNotUsable : PySem.W.subIn K (.ref C_NotUsable) (.type "BaseException") = some true)
    (tCNotUsable : PySem.W.typeIn K (.ref C_NotUsable) = some (.type "type"))
    (hCNotUsable : PySem.W.hasDictIn K C_NotUsable = true)
    (iCNotUsable : PySem.W.isClsIn K C_NotUsable = true)
    (sCNotUsable : PySem.W.subIn K (.ref C_NotUsable) (.ref C_NotUsable) = some true)
    (kCNotUsable : PySem.W.keepIn K (.ref C_NotUsable) = true)
    (xLInvalidText : K.lookup C_InvalidText = some (excClassObj nm_InvalidText q_InvalidText C_InvalidText N_InvalidText bs_InvalidText [.ref b_InvalidText_TextError, .ref b_InvalidText_StoodError, .type "ValueError", .type "Exception", .type "BaseException", .type "object"] true sn_InvalidText su_InvalidText ab_InvalidText co_InvalidText dd_InvalidText m0_InvalidText m1_InvalidText m2_InvalidText m3_InvalidText m5_InvalidText "ValueError.__new__"))
    (saInvalidText : PySem.W.findIn K (.ref C_InvalidText) "__setattr__" = some (some (.builtin "object.__setattr__")))
    (na_InvalidText_line : PySem.W.findIn K (.ref C_InvalidText) "line" = some none)
    (na_InvalidText_at : PySem.W.findIn K (.ref C_InvalidText) "at" = some none)
    (i_InvalidText : PySem.W.findIn K (.ref C_InvalidText) "__init__" = some (some (.ref A_InvalidText_init)))
    (ti_InvalidText : PySem.W.typeIn K (.ref A_InvalidText_init) = some (.type "function"))
    (l_InvalidText_init : K.lookup A_InvalidText_init = some ⟨oc_InvalidText_init, od_InvalidText_init, .func (PySem.W.fnOf "__init__" "InvalidText.__init__" (defArgs s_InvalidText_init) (defBody s_InvalidText_init) (defScope s_InvalidText_init) .none kV_InvalidText_init dc_InvalidText_init pm_InvalidText_init an_InvalidText_init cd_InvalidText_init ct_InvalidText_init), sl_InvalidText_init⟩)
    (c_InvalidText_init : PySem.W.codeIn K cd_InvalidText_init "InvalidText.__init__" = true)
    (k_InvalidText_init : PySem.W.keepIn K (.ref A_InvalidText_init) = true)
    (xLNotUsable : K.lookup C_NotUsable = some (excClassObj nm_NotUsable q_NotUsable C_NotUsable N_NotUsable bs_NotUsable [.ref b_NotUsable_UseError, .ref b_NotUsable_StoodError, .type "ValueError", .type "Exception", .type "BaseException", .type "object"] true sn_NotUsable su_NotUsable ab_NotUsable co_NotUsable dd_NotUsable m0_NotUsable m1_NotUsable m2_NotUsable m3_NotUsable m5_NotUsable "ValueError.__new__"))
    (saNotUsable : PySem.W.findIn K (.ref C_NotUsable) "__setattr__" = some (some (.builtin "object.__setattr__")))
    (na_NotUsable_word : PySem.W.findIn K (.ref C_NotUsable) "word" = some none)
    (na_NotUsable_at : PySem.W.findIn K (.ref C_NotUsable) "at" = some none)
    (i_NotUsable : PySem.W.findIn K (.ref C_NotUsable) "__init__" = some (some (.ref A_NotUsable_init)))
    (ti_NotUsable : PySem.W.typeIn K (.ref A_NotUsable_init) = some (.type "function"))
    (l_NotUsable_init : K.lookup A_NotUsable_init = some ⟨oc_NotUsable_init, od_NotUsable_init, .func (PySem.W.fnOf "__init__" "NotUsable.__init__" (defArgs s_NotUsable_init) (defBody s_NotUsable_init) (defScope s_NotUsable_init) .none kV_NotUsable_init dc_NotUsable_init pm_NotUsable_init an_NotUsable_init cd_NotUsable_init ct_NotUsable_init), sl_NotUsable_init⟩)
    (c_NotUsable_init : PySem.W.codeIn K cd_NotUsable_init "NotUsable.__init__" = true)
    (k_NotUsable_init : PySem.W.keepIn K (.ref A_NotUsable_init) = true)
    (er_sg : PySem.W.specialIn K (.builtin "object.__class__") "__get__" = some (some (.builtin "getset_descriptor.__get__")))
    (er_tk : PySem.W.takesIn K (.builtin "object.__class__") = some true)
    (caInvalidText : PySem.W.findIn K (.ref C_InvalidText) "__class__" = some (some (.builtin "object.__class__")))
    (obInvalidText : PySem.W.mroIn K C_InvalidText (.type "object") = some true)
    (caNotUsable : PySem.W.findIn K (.ref C_NotUsable) "__class__" = some (some (.builtin "object.__class__")))
    (obNotUsable : PySem.W.mroIn K C_NotUsable (.type "object") = some true)
    (iDInvalidText_TextError : PySem.W.isClsIn K C_TextError = true)
    (tDInvalidText_TextError : PySem.W.typeIn K (.ref C_TextError) = some (.type "type"))
    (sDInvalidText_TextError : PySem.W.subIn K (.ref C_InvalidText) (.ref C_TextError) = some true)
    (iDNotUsable_UseError : PySem.W.isClsIn K C_UseError = true)
    (tDNotUsable_UseError : PySem.W.typeIn K (.ref C_UseError) = some (.type "type"))
    (sDNotUsable_UseError : PySem.W.subIn K (.ref C_NotUsable) (.ref C_UseError) = some true)
    (sXNotUsable_InvalidText : PySem.W.subIn K (.ref C_NotUsable) (.ref C_InvalidText) = some false)
    (a_law_tape : PySem.W.nsIn K mainGlobals "_law_tape" = some (some (.ref A_law_tape)))
    (l_law_tape : K.lookup A_law_tape = some ⟨oc_law_tape, od_law_tape, .func (PySem.W.fnOf "_law_tape" "_law_tape" (defArgs s_law_tape) (defBody s_law_tape) (defScope s_law_tape) .none kV_law_tape dc_law_tape pm_law_tape an_law_tape cd_law_tape ct_law_tape), sl_law_tape⟩)
    (c_law_tape : PySem.W.codeIn K cd_law_tape "_law_tape" = true)
    (k_law_tape : PySem.W.keepIn K (.ref A_law_tape) = true)
    (a_law_pick : PySem.W.nsIn K mainGlobals "_law_pick" = some (some (.ref A_law_pick)))
    (l_law_pick : K.lookup A_law_pick = some ⟨oc_law_pick, od_law_pick, .func (PySem.W.fnOf "_law_pick" "_law_pick" (defArgs s_law_pick) (defBody s_law_pick) (defScope s_law_pick) .none kV_law_pick dc_law_pick pm_law_pick an_law_pick cd_law_pick ct_law_pick), sl_law_pick⟩)
    (c_law_pick : PySem.W.codeIn K cd_law_pick "_law_pick" = true)
    (k_law_pick : PySem.W.keepIn K (.ref A_law_pick) = true)
    (a_law_marks : PySem.W.nsIn K mainGlobals "_law_marks" = some (some (.ref A_law_marks)))
    (l_law_marks : K.lookup A_law_marks = some ⟨oc_law_marks, od_law_marks, .func (PySem.W.fnOf "_law_marks" "_law_marks" (defArgs s_law_marks) (defBody s_law_marks) (defScope s_law_marks) .none kV_law_marks dc_law_marks pm_law_marks an_law_marks cd_law_marks ct_law_marks), sl_law_marks⟩)
    (c_law_marks : PySem.W.codeIn K cd_law_marks "_law_marks" = true)
    (k_law_marks : PySem.W.keepIn K (.ref A_law_marks) = true)
    (a_law_tree : PySem.W.nsIn K mainGlobals "_law_tree" = some (some (.ref A_law_tree)))
    (l_law_tree : K.lookup A_law_tree = some ⟨oc_law_tree, od_law_tree, .func (PySem.W.fnOf "_law_tree" "_law_tree" (defArgs s_law_tree) (defBody s_law_tree) (defScope s_law_tree) .none kV_law_tree dc_law_tree pm_law_tree an_law_tree cd_law_tree ct_law_tree), sl_law_tree⟩)
    (c_law_tree : PySem.W.codeIn K cd_law_tree "_law_tree" = true)
    (k_law_tree : PySem.W.keepIn K (.ref A_law_tree) = true)
    (a_law_far : PySem.W.nsIn K mainGlobals "_law_far" = some (some (.ref A_law_far)))
    (l_law_far : K.lookup A_law_far = some ⟨oc_law_far, od_law_far, .func (PySem.W.fnOf "_law_far" "_law_far" (defArgs s_law_far) (defBody s_law_far) (defScope s_law_far) .none kV_law_far dc_law_far pm_law_far an_law_far cd_law_far ct_law_far), sl_law_far⟩)
    (c_law_far : PySem.W.codeIn K cd_law_far "_law_far" = true)
    (k_law_far : PySem.W.keepIn K (.ref A_law_far) = true)
    (a_law_masked : PySem.W.nsIn K mainGlobals "_law_masked" = some (some (.ref A_law_masked)))
    (l_law_masked : K.lookup A_law_masked = some ⟨oc_law_masked, od_law_masked, .func (PySem.W.fnOf "_law_masked" "_law_masked" (defArgs s_law_masked) (defBody s_law_masked) (defScope s_law_masked) .none kV_law_masked dc_law_masked pm_law_masked an_law_masked cd_law_masked ct_law_masked), sl_law_masked⟩)
    (c_law_masked : PySem.W.codeIn K cd_law_masked "_law_masked" = true)
    (k_law_masked : PySem.W.keepIn K (.ref A_law_masked) = true)
    (a_law_shown : PySem.W.nsIn K mainGlobals "_law_shown" = some (some (.ref A_law_shown)))
    (l_law_shown : K.lookup A_law_shown = some ⟨oc_law_shown, od_law_shown, .func (PySem.W.fnOf "_law_shown" "_law_shown" (defArgs s_law_shown) (defBody s_law_shown) (defScope s_law_shown) .none kV_law_shown dc_law_shown pm_law_shown an_law_shown cd_law_shown ct_law_shown), sl_law_shown⟩)
    (c_law_shown : PySem.W.codeIn K cd_law_shown "_law_shown" = true)
    (k_law_shown : PySem.W.keepIn K (.ref A_law_shown) = true)
    (a_law_same : PySem.W.nsIn K mainGlobals "_law_same" = some (some (.ref A_law_same)))
    (l_law_same : K.lookup A_law_same = some ⟨oc_law_same, od_law_same, .func (PySem.W.fnOf "_law_same" "_law_same" (defArgs s_law_same) (defBody s_law_same) (defScope s_law_same) .none kV_law_same dc_law_same pm_law_same an_law_same cd_law_same ct_law_same), sl_law_same⟩)
    (c_law_same : PySem.W.codeIn K cd_law_same "_law_same" = true)
    (k_law_same : PySem.W.keepIn K (.ref A_law_same) = true)
    (a_law_turned : PySem.W.nsIn K mainGlobals "_law_turned" = some (some (.ref A_law_turned)))
    (l_law_turned : K.lookup A_law_turned = some ⟨oc_law_turned, od_law_turned, .func (PySem.W.fnOf "_law_turned" "_law_turned" (defArgs s_law_turned) (defBody s_law_turned) (defScope s_law_turned) .none kV_law_turned dc_law_turned pm_law_turned an_law_turned cd_law_turned ct_law_turned), sl_law_turned⟩)
    (c_law_turned : PySem.W.codeIn K cd_law_turned "_law_turned" = true)
    (k_law_turned : PySem.W.keepIn K (.ref A_law_turned) = true)
    (a_shown : PySem.W.nsIn K mainGlobals "shown" = some (some (.ref A_shown)))
    (l_shown : K.lookup A_shown = some ⟨oc_shown, od_shown, .func (PySem.W.fnOf "shown" "shown" (defArgs s_shown) (defBody s_shown) (defScope s_shown) .none kV_shown dc_shown pm_shown an_shown cd_shown ct_shown), sl_shown⟩)
    (c_shown : PySem.W.codeIn K cd_shown "shown" = true)
    (k_shown : PySem.W.keepIn K (.ref A_shown) = true)
    (a_law_built : PySem.W.nsIn K mainGlobals "_law_built" = some (some (.ref A_law_built)))
    (l_law_built : K.lookup A_law_built = some ⟨oc_law_built, od_law_built, .func (PySem.W.fnOf "_law_built" "_law_built" (defArgs s_law_built) (defBody s_law_built) (defScope s_law_built) .none kV_law_built dc_law_built pm_law_built an_law_built cd_law_built ct_law_built), sl_law_built⟩)
    (c_law_built : PySem.W.codeIn K cd_law_built "_law_built" = true)
    (k_law_built : PySem.W.keepIn K (.ref A_law_built) = true)
    (a_law_read : PySem.W.nsIn K mainGlobals "_law_read" = some (some (.ref A_law_read)))
    (l_law_read : K.lookup A_law_read = some ⟨oc_law_read, od_law_read, .func (PySem.W.fnOf "_law_read" "_law_read" (defArgs s_law_read) (defBody s_law_read) (defScope s_law_read) .none kV_law_read dc_law_read pm_law_read an_law_read cd_law_read ct_law_read), sl_law_read⟩)
    (c_law_read : PySem.W.codeIn K cd_law_read "_law_read" = true)
    (k_law_read : PySem.W.keepIn K (.ref A_law_read) = true)
    (a_need : PySem.W.nsIn K mainGlobals "need" = some (some (.ref A_need)))
    (l_need : K.lookup A_need = some ⟨oc_need, od_need, .func (PySem.W.fnOf "need" "need" (defArgs s_need) (defBody s_need) (defScope s_need) .none kV_need dc_need pm_need an_need cd_need ct_need), sl_need⟩)
    (c_need : PySem.W.codeIn K cd_need "need" = true)
    (k_need : PySem.W.keepIn K (.ref A_need) = true)
    (a_TreeReader_sign : PySem.W.findIn K (.ref C_TreeReader) "sign" = some (some (.ref A_TreeReader_sign)))
    (i_TreeReader_sign : PySem.W.isFn K (.ref A_TreeReader_sign) = true)
    (l_TreeReader_sign : K.lookup A_TreeReader_sign = some ⟨oc_TreeReader_sign, od_TreeReader_sign, .func (PySem.W.fnOf "sign" "TreeReader.sign" (defArgs s_TreeReader_sign) (defBody s_TreeReader_sign) (defScope s_TreeReader_sign) .none kV_TreeReader_sign dc_TreeReader_sign pm_TreeReader_sign an_TreeReader_sign cd_TreeReader_sign ct_TreeReader_sign), sl_TreeReader_sign⟩)
    (c_TreeReader_sign : PySem.W.codeIn K cd_TreeReader_sign "TreeReader.sign" = true)
    (k_TreeReader_sign : PySem.W.keepIn K (.ref A_TreeReader_sign) = true)
    (a_TreeReader_refuse : PySem.W.findIn K (.ref C_TreeReader) "refuse" = some (some (.ref A_TreeReader_refuse)))
    (i_TreeReader_refuse : PySem.W.isFn K (.ref A_TreeReader_refuse) = true)
    (l_TreeReader_refuse : K.lookup A_TreeReader_refuse = some ⟨oc_TreeReader_refuse, od_TreeReader_refuse, .func (PySem.W.fnOf "refuse" "TreeReader.refuse" (defArgs s_TreeReader_refuse) (defBody s_TreeReader_refuse) (defScope s_TreeReader_refuse) .none kV_TreeReader_refuse dc_TreeReader_refuse pm_TreeReader_refuse an_TreeReader_refuse cd_TreeReader_refuse ct_TreeReader_refuse), sl_TreeReader_refuse⟩)
    (c_TreeReader_refuse : PySem.W.codeIn K cd_TreeReader_refuse "TreeReader.refuse" = true)
    (k_TreeReader_refuse : PySem.W.keepIn K (.ref A_TreeReader_refuse) = true)
    (a_TreeReader_read_word_rest : PySem.W.findIn K (.ref C_TreeReader) "read_word_rest" = some (some (.ref A_TreeReader_read_word_rest)))
    (i_TreeReader_read_word_rest : PySem.W.isFn K (.ref A_TreeReader_read_word_rest) = true)
    (l_TreeReader_read_word_rest : K.lookup A_TreeReader_read_word_rest = some ⟨oc_TreeReader_read_word_rest, od_TreeReader_read_word_rest, .func (PySem.W.fnOf "read_word_rest" "TreeReader.read_word_rest" (defArgs s_TreeReader_read_word_rest) (defBody s_TreeReader_read_word_rest) (defScope s_TreeReader_read_word_rest) .none kV_TreeReader_read_word_rest dc_TreeReader_read_word_rest pm_TreeReader_read_word_rest an_TreeReader_read_word_rest cd_TreeReader_read_word_rest ct_TreeReader_read_word_rest), sl_TreeReader_read_word_rest⟩)
    (c_TreeReader_read_word_rest : PySem.W.codeIn K cd_TreeReader_read_word_rest "TreeReader.read_word_rest" = true)
    (k_TreeReader_read_word_rest : PySem.W.keepIn K (.ref A_TreeReader_read_word_rest) = true)
    (a_TreeReader_read_symbol : PySem.W.findIn K (.ref C_TreeReader) "read_symbol" = some (some (.ref A_TreeReader_read_symbol)))
    (i_TreeReader_read_symbol : PySem.W.isFn K (.ref A_TreeReader_read_symbol) = true)
    (l_TreeReader_read_symbol : K.lookup A_TreeReader_read_symbol = some ⟨oc_TreeReader_read_symbol, od_TreeReader_read_symbol, .func (PySem.W.fnOf "read_symbol" "TreeReader.read_symbol" (defArgs s_TreeReader_read_symbol) (defBody s_TreeReader_read_symbol) (defScope s_TreeReader_read_symbol) .none kV_TreeReader_read_symbol dc_TreeReader_read_symbol pm_TreeReader_read_symbol an_TreeReader_read_symbol cd_TreeReader_read_symbol ct_TreeReader_read_symbol), sl_TreeReader_read_symbol⟩)
    (c_TreeReader_read_symbol : PySem.W.codeIn K cd_TreeReader_read_symbol "TreeReader.read_symbol" = true)
    (k_TreeReader_read_symbol : PySem.W.keepIn K (.ref A_TreeReader_read_symbol) = true)
    (a_TreeReader_open_bracket : PySem.W.findIn K (.ref C_TreeReader) "open_bracket" = some (some (.ref A_TreeReader_open_bracket)))
    (i_TreeReader_open_bracket : PySem.W.isFn K (.ref A_TreeReader_open_bracket) = true)
    (l_TreeReader_open_bracket : K.lookup A_TreeReader_open_bracket = some ⟨oc_TreeReader_open_bracket, od_TreeReader_open_bracket, .func (PySem.W.fnOf "open_bracket" "TreeReader.open_bracket" (defArgs s_TreeReader_open_bracket) (defBody s_TreeReader_open_bracket) (defScope s_TreeReader_open_bracket) .none kV_TreeReader_open_bracket dc_TreeReader_open_bracket pm_TreeReader_open_bracket an_TreeReader_open_bracket cd_TreeReader_open_bracket ct_TreeReader_open_bracket), sl_TreeReader_open_bracket⟩)
    (c_TreeReader_open_bracket : PySem.W.codeIn K cd_TreeReader_open_bracket "TreeReader.open_bracket" = true)
    (k_TreeReader_open_bracket : PySem.W.keepIn K (.ref A_TreeReader_open_bracket) = true)
    (a_TreeReader_read_ends : PySem.W.findIn K (.ref C_TreeReader) "read_ends" = some (some (.ref A_TreeReader_read_ends)))
    (i_TreeReader_read_ends : PySem.W.isFn K (.ref A_TreeReader_read_ends) = true)
    (l_TreeReader_read_ends : K.lookup A_TreeReader_read_ends = some ⟨oc_TreeReader_read_ends, od_TreeReader_read_ends, .func (PySem.W.fnOf "read_ends" "TreeReader.read_ends" (defArgs s_TreeReader_read_ends) (defBody s_TreeReader_read_ends) (defScope s_TreeReader_read_ends) .none kV_TreeReader_read_ends dc_TreeReader_read_ends pm_TreeReader_read_ends an_TreeReader_read_ends cd_TreeReader_read_ends ct_TreeReader_read_ends), sl_TreeReader_read_ends⟩)
    (c_TreeReader_read_ends : PySem.W.codeIn K cd_TreeReader_read_ends "TreeReader.read_ends" = true)
    (k_TreeReader_read_ends : PySem.W.keepIn K (.ref A_TreeReader_read_ends) = true)
    (a_TreeReader_read_all : PySem.W.findIn K (.ref C_TreeReader) "read_all" = some (some (.ref A_TreeReader_read_all)))
    (i_TreeReader_read_all : PySem.W.isFn K (.ref A_TreeReader_read_all) = true)
    (l_TreeReader_read_all : K.lookup A_TreeReader_read_all = some ⟨oc_TreeReader_read_all, od_TreeReader_read_all, .func (PySem.W.fnOf "read_all" "TreeReader.read_all" (defArgs s_TreeReader_read_all) (defBody s_TreeReader_read_all) (defScope s_TreeReader_read_all) .none kV_TreeReader_read_all dc_TreeReader_read_all pm_TreeReader_read_all an_TreeReader_read_all cd_TreeReader_read_all ct_TreeReader_read_all), sl_TreeReader_read_all⟩)
    (c_TreeReader_read_all : PySem.W.codeIn K cd_TreeReader_read_all "TreeReader.read_all" = true)
    (k_TreeReader_read_all : PySem.W.keepIn K (.ref A_TreeReader_read_all) = true)
    (a_TreeReader_init : PySem.W.findIn K (.ref C_TreeReader) "__init__" = some (some (.ref A_TreeReader_init)))
    (i_TreeReader_init : PySem.W.isFn K (.ref A_TreeReader_init) = true)
    (l_TreeReader_init : K.lookup A_TreeReader_init = some ⟨oc_TreeReader_init, od_TreeReader_init, .func (PySem.W.fnOf "__init__" "TreeReader.__init__" (defArgs s_TreeReader_init) (defBody s_TreeReader_init) (defScope s_TreeReader_init) .none kV_TreeReader_init dc_TreeReader_init pm_TreeReader_init an_TreeReader_init cd_TreeReader_init ct_TreeReader_init), sl_TreeReader_init⟩)
    (c_TreeReader_init : PySem.W.codeIn K cd_TreeReader_init "TreeReader.__init__" = true)
    (k_TreeReader_init : PySem.W.keepIn K (.ref A_TreeReader_init) = true)
    (a_read_tree : PySem.W.nsIn K mainGlobals "read_tree" = some (some (.ref A_read_tree)))
    (l_read_tree : K.lookup A_read_tree = some ⟨oc_read_tree, od_read_tree, .func (PySem.W.fnOf "read_tree" "read_tree" (defArgs s_read_tree) (defBody s_read_tree) (defScope s_read_tree) .none kV_read_tree dc_read_tree pm_read_tree an_read_tree cd_read_tree ct_read_tree), sl_read_tree⟩)
    (c_read_tree : PySem.W.codeIn K cd_read_tree "read_tree" = true)
    (k_read_tree : PySem.W.keepIn K (.ref A_read_tree) = true)
    (a_read_pattern : PySem.W.nsIn K mainGlobals "read_pattern" = some (some (.ref A_read_pattern)))
    (l_read_pattern : K.lookup A_read_pattern = some ⟨oc_read_pattern, od_read_pattern, .func (PySem.W.fnOf "read_pattern" "read_pattern" (defArgs s_read_pattern) (defBody s_read_pattern) (defScope s_read_pattern) .none kV_read_pattern dc_read_pattern pm_read_pattern an_read_pattern cd_read_pattern ct_read_pattern), sl_read_pattern⟩)
    (c_read_pattern : PySem.W.codeIn K cd_read_pattern "read_pattern" = true)
    (k_read_pattern : PySem.W.keepIn K (.ref A_read_pattern) = true)
    (a_law_asks : PySem.W.nsIn K mainGlobals "_law_asks" = some (some (.ref A_law_asks)))
    (l_law_asks : K.lookup A_law_asks = some ⟨oc_law_asks, od_law_asks, .func (PySem.W.fnOf "_law_asks" "_law_asks" (defArgs s_law_asks) (defBody s_law_asks) (defScope s_law_asks) .none kV_law_asks dc_law_asks pm_law_asks an_law_asks cd_law_asks ct_law_asks), sl_law_asks⟩)
    (c_law_asks : PySem.W.codeIn K cd_law_asks "_law_asks" = true)
    (k_law_asks : PySem.W.keepIn K (.ref A_law_asks) = true)
    (a_law_right : PySem.W.nsIn K mainGlobals "_law_right" = some (some (.ref A_law_right)))
    (l_law_right : K.lookup A_law_right = some ⟨oc_law_right, od_law_right, .func (PySem.W.fnOf "_law_right" "_law_right" (defArgs s_law_right) (defBody s_law_right) (defScope s_law_right) .none kV_law_right dc_law_right pm_law_right an_law_right cd_law_right ct_law_right), sl_law_right⟩)
    (c_law_right : PySem.W.codeIn K cd_law_right "_law_right" = true)
    (k_law_right : PySem.W.keepIn K (.ref A_law_right) = true)
    (a_law_refusals : PySem.W.nsIn K mainGlobals "_law_refusals" = some (some (.ref A_law_refusals)))
    (l_law_refusals : K.lookup A_law_refusals = some ⟨oc_law_refusals, od_law_refusals, .func (PySem.W.fnOf "_law_refusals" "_law_refusals" (defArgs s_law_refusals) (defBody s_law_refusals) (defScope s_law_refusals) .none kV_law_refusals dc_law_refusals pm_law_refusals an_law_refusals cd_law_refusals ct_law_refusals), sl_law_refusals⟩)
    (c_law_refusals : PySem.W.codeIn K cd_law_refusals "_law_refusals" = true)
    (k_law_refusals : PySem.W.keepIn K (.ref A_law_refusals) = true)
    (a_law : PySem.W.nsIn K mainGlobals "law" = some (some (.ref A_law)))
    (l_law : K.lookup A_law = some ⟨oc_law, od_law, .func (PySem.W.fnOf "law" "law" (defArgs s_law) (defBody s_law) (defScope s_law) .none kV_law dc_law pm_law an_law cd_law ct_law), sl_law⟩)
    (c_law : PySem.W.codeIn K cd_law "law" = true)
    (k_law : PySem.W.keepIn K (.ref A_law) = true) :
    ∃ fd : FuncData, (∀ (s : Shared) (v : Value), BindsTo s fd ⟨[v], []⟩ [("script", v)]) ∧ ∀ base : Heap, K.In base → base.Ns mainGlobals mg → FnOk P w K mg base (L2.CX P w) 9 fa fd ["script"] (lift K sp_law) := by
  have e := hfa.symm.trans (PySem.W.mg_of X G a_law)
  cases e
  refine ⟨PySem.W.fnOf "law" "law" (defArgs s_law) (defBody s_law) (defScope s_law) .none kV_law dc_law pm_law an_law cd_law ct_law, fun s v => .of_eq rfl, fun base _ _ => ?_⟩
  have K_TreeReader : Cls K C_TreeReader := ⟨pgTreeReader, hdTreeReader, poTreeReader, saTreeReader⟩
  have G_HOLE : Glo K mg "HOLE" (.tup [.str "?", .int 0]) := ⟨_, .ref A_cHOLE, PySem.W.mg_of X G g_HOLE, rfl, fun S => ⟨A_cHOLE, [V.str "?", V.int 0], rfl, .inr ⟨_, _, _, gl_HOLE, rfl, rfl, (by show 2 ≤ sizeLine; decide), (.cons ⟨_, rfl⟩ (.cons ⟨_, rfl⟩ .nil))⟩, ⟨_, _, rfl, rfl, ⟨_, _, rfl, rfl, rfl⟩⟩⟩⟩
  have G_LETTERS : Glo K mg "LETTERS" (.str "abcdefghijklmnopqrstuvwxyz") := ⟨_, .str "abcdefghijklmnopqrstuvwxyz", PySem.W.mg_of X G g_LETTERS, ⟨_, rfl⟩, fun _ => rfl⟩
  have G_LONGEST_WORD : Glo K mg "LONGEST_WORD" (.int 16) := ⟨_, .int 16, PySem.W.mg_of X G g_LONGEST_WORD, ⟨_, rfl⟩, fun _ => rfl⟩
  have G_MOST_PARTS : Glo K mg "MOST_PARTS" (.int 4) := ⟨_, .int 4, PySem.W.mg_of X G g_MOST_PARTS, ⟨_, rfl⟩, fun _ => rfl⟩
  have G_SILENT : Glo K mg "SILENT" (.str ".") := ⟨_, .str ".", PySem.W.mg_of X G g_SILENT, ⟨_, rfl⟩, fun _ => rfl⟩
  have G_WORD_SIGNS : Glo K mg "WORD_SIGNS" (.str "abcdefghijklmnopqrstuvwxyz0123456789-") := ⟨_, .str "abcdefghijklmnopqrstuvwxyz0123456789-", PySem.W.mg_of X G g_WORD_SIGNS, ⟨_, rfl⟩, fun _ => rfl⟩
  have T : Bl mg := ⟨PySem.W.mg_none_of X G z_len, PySem.W.mg_none_of X G z_int, PySem.W.mg_none_of X G z_abs, PySem.W.mg_none_of X G z_max, PySem.W.mg_none_of X G z_min, PySem.W.mg_none_of X G z_bool, PySem.W.mg_none_of X G z_str, PySem.W.mg_none_of X G z_tuple, PySem.W.mg_none_of X G z_list, PySem.W.mg_none_of X G z_range, PySem.W.mg_none_of X G z_isinstance⟩
  have O_InvalidText : OexC K C_InvalidText := ⟨⟨_, _, _, _, _, _, _, _, _, _, _, _, _, _, _, xLInvalidText, rfl⟩, saInvalidText, eCInvalidText, tCInvalidText, kCInvalidText⟩
  have F_InvalidText_init := fun_mk (st := s_InvalidText_init) l_InvalidText_init c_InvalidText_init k_InvalidText_init
  have R_InvalidText : ErrC P w K mg base "InvalidText" C_InvalidText "line" "at" := ⟨O_InvalidText, PySem.W.mg_of X G aInvalidText, _, _, i_InvalidText, ti_InvalidText, ok_InvalidText_init F_InvalidText_init O_InvalidText na_InvalidText_line na_InvalidText_at, F_InvalidText_init.binds (ps := ["self", "line", "at"]) fun _ _ _ _ _ _ us hl => match us, hl with | [_, _, _], _ => rfl⟩
  have O_NotUsable : OexC K C_NotUsable := ⟨⟨_, _, _, _, _, _, _, _, _, _, _, _, _, _, _, xLNotUsable, rfl⟩, saNotUsable, eCNotUsable, tCNotUsable, kCNotUsable⟩
  have F_NotUsable_init := fun_mk (st := s_NotUsable_init) l_NotUsable_init c_NotUsable_init k_NotUsable_init
  have R_NotUsable : ErrC P w K mg base "NotUsable" C_NotUsable "word" "at" := ⟨O_NotUsable, PySem.W.mg_of X G aNotUsable, _, _, i_NotUsable, ti_NotUsable, ok_NotUsable_init F_NotUsable_init O_NotUsable na_NotUsable_word na_NotUsable_at, F_NotUsable_init.binds (ps := ["self", "word", "at"]) fun _ _ _ _ _ _ us hl => match us, hl with | [_, _, _], _ => rfl⟩
  have H_InvalidText : HdC K mg "InvalidText" C_InvalidText := ⟨PySem.W.mg_of X G aInvalidText, exm_self eCInvalidText iCInvalidText tCInvalidText sCInvalidText⟩
  have H_NotUsable : HdC K mg "NotUsable" C_NotUsable := ⟨PySem.W.mg_of X G aNotUsable, exm_self eCNotUsable iCNotUsable tCNotUsable sCNotUsable⟩
  have X_InvalidText : XfC K C_InvalidText := ⟨gaInvalidText, ggInvalidText, eCInvalidText, hCInvalidText⟩
  have X_NotUsable : XfC K C_NotUsable := ⟨gaNotUsable, ggNotUsable, eCNotUsable, hCNotUsable⟩
  have E_InvalidText : PySem.W.ErC K C_InvalidText := ⟨gaInvalidText, ggInvalidText, eCInvalidText, hCInvalidText, caInvalidText, er_sg, er_tk, obInvalidText⟩
  have E_NotUsable : PySem.W.ErC K C_NotUsable := ⟨gaNotUsable, ggNotUsable, eCNotUsable, hCNotUsable, caNotUsable, er_sg, er_tk, obNotUsable⟩
  have kit_InvalidText_TextError := kit_sub iDInvalidText_TextError tDInvalidText_TextError sDInvalidText_TextError
  have kit_NotUsable_UseError := kit_sub iDNotUsable_UseError tDNotUsable_UseError sDNotUsable_UseError
  have exm_NotUsable_InvalidText := exm_no eCInvalidText iCInvalidText tCInvalidText sXNotUsable_InvalidText
  have F_law_tape := fun_mk (st := s_law_tape) l_law_tape c_law_tape k_law_tape
  have Olaw_tape := fn_ok (P := P) (w := w) (mg := mg) (base := base) (k := 0) (sp := sp_law_tape) F_law_tape sc_law_tape (by intro ds m P W h; unfold sp_law_tape at h; first | (rcases h with ⟨_, rfl, _⟩ | ⟨_, rfl, _⟩ <;> rfl) | (rcases h with ⟨_, rfl, _⟩ | ⟨_, _, rfl, _⟩ <;> rfl) | (rcases h with ⟨_, rfl, _⟩ | ⟨_, _, _, rfl, _⟩ <;> rfl) | (rcases h with ⟨_, _, rfl, _⟩ | ⟨_, rfl, _⟩ <;> rfl) | (rcases h with ⟨_, _, rfl, _⟩ | ⟨_, _, rfl, _⟩ <;> rfl) | (rcases h with ⟨_, _, rfl, _⟩ | ⟨_, _, _, rfl, _⟩ <;> rfl) | (rcases h with ⟨_, _, _, rfl, _⟩ | ⟨_, rfl, _⟩ <;> rfl) | (rcases h with ⟨_, _, _, rfl, _⟩ | ⟨_, _, rfl, _⟩ <;> rfl) | (rcases h with ⟨_, _, _, rfl, _⟩ | ⟨_, _, _, rfl, _⟩ <;> rfl) | (obtain ⟨_, rfl, _⟩ := h; rfl) | (obtain ⟨_, _, rfl, _⟩ := h; rfl) | (obtain ⟨_, _, _, rfl, _⟩ := h; rfl) | (obtain ⟨_, _, _, _, rfl, _⟩ := h; rfl) | (obtain ⟨_, _, _, _, _, rfl, _⟩ := h; rfl) | (obtain ⟨_, _, _, _, _, _, rfl, _⟩ := h; rfl) | (obtain ⟨_, _, _, _, _, _, _, rfl, _⟩ := h; rfl) | (obtain ⟨_, _, _, _, _, _, _, _, rfl, _⟩ := h; rfl) | (obtain ⟨_, _, _, _, _, _, _, _, _, rfl, _⟩ := h; rfl)) (fun cdv A outer s H E S0 W hr tk => ab_law_tape T cdv A outer s H E S0 W hr tk) (rd_law_tape)
  have Glaw_tape : Cal P w K mg base 1 "_law_tape" ["script"] (sp_law_tape) := ⟨_, _, Olaw_tape, PySem.W.mg_of X G a_law_tape, k_law_tape, F_law_tape.binds (ps := ["script"]) fun _ _ _ _ _ _ us hl => match us, hl with | [_], _ => rfl, ⟨fun s us ws _ hl => match us, ws, hl with | [], [_], _ => .of_eq rfl, fun {vs us zs ws} h1 h2 => by cases h1 with | nil => exact h2 | cons _ _ => exact .nil⟩⟩
  have F_law_pick := fun_mk (st := s_law_pick) l_law_pick c_law_pick k_law_pick
  have Olaw_pick := fn_ok (P := P) (w := w) (mg := mg) (base := base) (k := 0) (sp := sp_law_pick) F_law_pick sc_law_pick (by intro ds m P W h; unfold sp_law_pick at h; first | (rcases h with ⟨_, rfl, _⟩ | ⟨_, rfl, _⟩ <;> rfl) | (rcases h with ⟨_, rfl, _⟩ | ⟨_, _, rfl, _⟩ <;> rfl) | (rcases h with ⟨_, rfl, _⟩ | ⟨_, _, _, rfl, _⟩ <;> rfl) | (rcases h with ⟨_, _, rfl, _⟩ | ⟨_, rfl, _⟩ <;> rfl) | (rcases h with ⟨_, _, rfl, _⟩ | ⟨_, _, rfl, _⟩ <;> rfl) | (rcases h with ⟨_, _, rfl, _⟩ | ⟨_, _, _, rfl, _⟩ <;> rfl) | (rcases h with ⟨_, _, _, rfl, _⟩ | ⟨_, rfl, _⟩ <;> rfl) | (rcases h with ⟨_, _, _, rfl, _⟩ | ⟨_, _, rfl, _⟩ <;> rfl) | (rcases h with ⟨_, _, _, rfl, _⟩ | ⟨_, _, _, rfl, _⟩ <;> rfl) | (obtain ⟨_, rfl, _⟩ := h; rfl) | (obtain ⟨_, _, rfl, _⟩ := h; rfl) | (obtain ⟨_, _, _, rfl, _⟩ := h; rfl) | (obtain ⟨_, _, _, _, rfl, _⟩ := h; rfl) | (obtain ⟨_, _, _, _, _, rfl, _⟩ := h; rfl) | (obtain ⟨_, _, _, _, _, _, rfl, _⟩ := h; rfl) | (obtain ⟨_, _, _, _, _, _, _, rfl, _⟩ := h; rfl) | (obtain ⟨_, _, _, _, _, _, _, _, rfl, _⟩ := h; rfl) | (obtain ⟨_, _, _, _, _, _, _, _, _, rfl, _⟩ := h; rfl)) (fun cdv A outer s H E S0 W hr tk => ab_law_pick T cdv A outer s H E S0 W hr tk) (rd_law_pick)
  have Glaw_pick : Cal P w K mg base 1 "_law_pick" ["tape", "many"] (sp_law_pick) := ⟨_, _, Olaw_pick, PySem.W.mg_of X G a_law_pick, k_law_pick, F_law_pick.binds (ps := ["tape", "many"]) fun _ _ _ _ _ _ us hl => match us, hl with | [_, _], _ => rfl, ⟨fun s us ws _ hl => match us, ws, hl with | [], [_, _], _ => .of_eq rfl, fun {vs us zs ws} h1 h2 => by cases h1 with | nil => exact h2 | cons _ _ => exact .nil⟩⟩
  have F_law_marks := fun_mk (st := s_law_marks) l_law_marks c_law_marks k_law_marks
  have Olaw_marks := fn_ok (P := P) (w := w) (mg := mg) (base := base) (k := 1) (sp := sp_law_marks) F_law_marks sc_law_marks (by intro ds m P W h; unfold sp_law_marks at h; first | (rcases h with ⟨_, rfl, _⟩ | ⟨_, rfl, _⟩ <;> rfl) | (rcases h with ⟨_, rfl, _⟩ | ⟨_, _, rfl, _⟩ <;> rfl) | (rcases h with ⟨_, rfl, _⟩ | ⟨_, _, _, rfl, _⟩ <;> rfl) | (rcases h with ⟨_, _, rfl, _⟩ | ⟨_, rfl, _⟩ <;> rfl) | (rcases h with ⟨_, _, rfl, _⟩ | ⟨_, _, rfl, _⟩ <;> rfl) | (rcases h with ⟨_, _, rfl, _⟩ | ⟨_, _, _, rfl, _⟩ <;> rfl) | (rcases h with ⟨_, _, _, rfl, _⟩ | ⟨_, rfl, _⟩ <;> rfl) | (rcases h with ⟨_, _, _, rfl, _⟩ | ⟨_, _, rfl, _⟩ <;> rfl) | (rcases h with ⟨_, _, _, rfl, _⟩ | ⟨_, _, _, rfl, _⟩ <;> rfl) | (obtain ⟨_, rfl, _⟩ := h; rfl) | (obtain ⟨_, _, rfl, _⟩ := h; rfl) | (obtain ⟨_, _, _, rfl, _⟩ := h; rfl) | (obtain ⟨_, _, _, _, rfl, _⟩ := h; rfl) | (obtain ⟨_, _, _, _, _, rfl, _⟩ := h; rfl) | (obtain ⟨_, _, _, _, _, _, rfl, _⟩ := h; rfl) | (obtain ⟨_, _, _, _, _, _, _, rfl, _⟩ := h; rfl) | (obtain ⟨_, _, _, _, _, _, _, _, rfl, _⟩ := h; rfl) | (obtain ⟨_, _, _, _, _, _, _, _, _, rfl, _⟩ := h; rfl)) (fun cdv A outer s H E S0 W hr tk => ab_law_marks Glaw_pick T cdv A outer s H E S0 W hr tk) (rd_law_marks)
  have Glaw_marks : Cal P w K mg base 2 "_law_marks" ["tape"] (sp_law_marks) := ⟨_, _, Olaw_marks, PySem.W.mg_of X G a_law_marks, k_law_marks, F_law_marks.binds (ps := ["tape"]) fun _ _ _ _ _ _ us hl => match us, hl with | [_], _ => rfl, ⟨fun s us ws _ hl => match us, ws, hl with | [], [_], _ => .of_eq rfl, fun {vs us zs ws} h1 h2 => by cases h1 with | nil => exact h2 | cons _ _ => exact .nil⟩⟩
  have F_law_tree := fun_mk (st := s_law_tree) l_law_tree c_law_tree k_law_tree
  have Olaw_tree := fn_ok (P := P) (w := w) (mg := mg) (base := base) (k := 1) (sp := sp_law_tree) F_law_tree sc_law_tree (by intro ds m P W h; unfold sp_law_tree at h; first | (rcases h with ⟨_, rfl, _⟩ | ⟨_, rfl, _⟩ <;> rfl) | (rcases h with ⟨_, rfl, _⟩ | ⟨_, _, rfl, _⟩ <;> rfl) | (rcases h with ⟨_, rfl, _⟩ | ⟨_, _, _, rfl, _⟩ <;> rfl) | (rcases h with ⟨_, _, rfl, _⟩ | ⟨_, rfl, _⟩ <;> rfl) | (rcases h with ⟨_, _, rfl, _⟩ | ⟨_, _, rfl, _⟩ <;> rfl) | (rcases h with ⟨_, _, rfl, _⟩ | ⟨_, _, _, rfl, _⟩ <;> rfl) | (rcases h with ⟨_, _, _, rfl, _⟩ | ⟨_, rfl, _⟩ <;> rfl) | (rcases h with ⟨_, _, _, rfl, _⟩ | ⟨_, _, rfl, _⟩ <;> rfl) | (rcases h with ⟨_, _, _, rfl, _⟩ | ⟨_, _, _, rfl, _⟩ <;> rfl) | (obtain ⟨_, rfl, _⟩ := h; rfl) | (obtain ⟨_, _, rfl, _⟩ := h; rfl) | (obtain ⟨_, _, _, rfl, _⟩ := h; rfl) | (obtain ⟨_, _, _, _, rfl, _⟩ := h; rfl) | (obtain ⟨_, _, _, _, _, rfl, _⟩ := h; rfl) | (obtain ⟨_, _, _, _, _, _, rfl, _⟩ := h; rfl) | (obtain ⟨_, _, _, _, _, _, _, rfl, _⟩ := h; rfl) | (obtain ⟨_, _, _, _, _, _, _, _, rfl, _⟩ := h; rfl) | (obtain ⟨_, _, _, _, _, _, _, _, _, rfl, _⟩ := h; rfl)) (fun cdv A outer s H E S0 W hr tk => ab_law_tree Glaw_pick T cdv A outer s H E S0 W hr tk) (rd_law_tree)
  have Glaw_tree : Cal P w K mg base 2 "_law_tree" ["tape", "marks", "most"] (sp_law_tree) := ⟨_, _, Olaw_tree, PySem.W.mg_of X G a_law_tree, k_law_tree, F_law_tree.binds (ps := ["tape", "marks", "most"]) fun _ _ _ _ _ _ us hl => match us, hl with | [_, _, _], _ => rfl, ⟨fun s us ws _ hl => match us, ws, hl with | [], [_, _, _], _ => .of_eq rfl, fun {vs us zs ws} h1 h2 => by cases h1 with | nil => exact h2 | cons _ _ => exact .nil⟩⟩
  have F_law_far := fun_mk (st := s_law_far) l_law_far c_law_far k_law_far
  have Olaw_far := fn_ok (P := P) (w := w) (mg := mg) (base := base) (k := 0) (sp := sp_law_far) F_law_far sc_law_far (by intro ds m P W h; unfold sp_law_far at h; first | (rcases h with ⟨_, rfl, _⟩ | ⟨_, rfl, _⟩ <;> rfl) | (rcases h with ⟨_, rfl, _⟩ | ⟨_, _, rfl, _⟩ <;> rfl) | (rcases h with ⟨_, rfl, _⟩ | ⟨_, _, _, rfl, _⟩ <;> rfl) | (rcases h with ⟨_, _, rfl, _⟩ | ⟨_, rfl, _⟩ <;> rfl) | (rcases h with ⟨_, _, rfl, _⟩ | ⟨_, _, rfl, _⟩ <;> rfl) | (rcases h with ⟨_, _, rfl, _⟩ | ⟨_, _, _, rfl, _⟩ <;> rfl) | (rcases h with ⟨_, _, _, rfl, _⟩ | ⟨_, rfl, _⟩ <;> rfl) | (rcases h with ⟨_, _, _, rfl, _⟩ | ⟨_, _, rfl, _⟩ <;> rfl) | (rcases h with ⟨_, _, _, rfl, _⟩ | ⟨_, _, _, rfl, _⟩ <;> rfl) | (obtain ⟨_, rfl, _⟩ := h; rfl) | (obtain ⟨_, _, rfl, _⟩ := h; rfl) | (obtain ⟨_, _, _, rfl, _⟩ := h; rfl) | (obtain ⟨_, _, _, _, rfl, _⟩ := h; rfl) | (obtain ⟨_, _, _, _, _, rfl, _⟩ := h; rfl) | (obtain ⟨_, _, _, _, _, _, rfl, _⟩ := h; rfl) | (obtain ⟨_, _, _, _, _, _, _, rfl, _⟩ := h; rfl) | (obtain ⟨_, _, _, _, _, _, _, _, rfl, _⟩ := h; rfl) | (obtain ⟨_, _, _, _, _, _, _, _, _, rfl, _⟩ := h; rfl)) (fun cdv A outer s H E S0 W hr tk => ab_law_far  cdv A outer s H E S0 W hr tk) (rd_law_far)
  have Glaw_far : Cal P w K mg base 1 "_law_far" ["row", "at"] (sp_law_far) := ⟨_, _, Olaw_far, PySem.W.mg_of X G a_law_far, k_law_far, F_law_far.binds (ps := ["row", "at"]) fun _ _ _ _ _ _ us hl => match us, hl with | [_, _], _ => rfl, ⟨fun s us ws _ hl => match us, ws, hl with | [], [_, _], _ => .of_eq rfl, fun {vs us zs ws} h1 h2 => by cases h1 with | nil => exact h2 | cons _ _ => exact .nil⟩⟩
  have F_law_masked := fun_mk (st := s_law_masked) l_law_masked c_law_masked k_law_masked
  have Olaw_masked := fn_ok (P := P) (w := w) (mg := mg) (base := base) (k := 1) (sp := sp_law_masked) F_law_masked sc_law_masked (by intro ds m P W h; unfold sp_law_masked at h; first | (rcases h with ⟨_, rfl, _⟩ | ⟨_, rfl, _⟩ <;> rfl) | (rcases h with ⟨_, rfl, _⟩ | ⟨_, _, rfl, _⟩ <;> rfl) | (rcases h with ⟨_, rfl, _⟩ | ⟨_, _, _, rfl, _⟩ <;> rfl) | (rcases h with ⟨_, _, rfl, _⟩ | ⟨_, rfl, _⟩ <;> rfl) | (rcases h with ⟨_, _, rfl, _⟩ | ⟨_, _, rfl, _⟩ <;> rfl) | (rcases h with ⟨_, _, rfl, _⟩ | ⟨_, _, _, rfl, _⟩ <;> rfl) | (rcases h with ⟨_, _, _, rfl, _⟩ | ⟨_, rfl, _⟩ <;> rfl) | (rcases h with ⟨_, _, _, rfl, _⟩ | ⟨_, _, rfl, _⟩ <;> rfl) | (rcases h with ⟨_, _, _, rfl, _⟩ | ⟨_, _, _, rfl, _⟩ <;> rfl) | (obtain ⟨_, rfl, _⟩ := h; rfl) | (obtain ⟨_, _, rfl, _⟩ := h; rfl) | (obtain ⟨_, _, _, rfl, _⟩ := h; rfl) | (obtain ⟨_, _, _, _, rfl, _⟩ := h; rfl) | (obtain ⟨_, _, _, _, _, rfl, _⟩ := h; rfl) | (obtain ⟨_, _, _, _, _, _, rfl, _⟩ := h; rfl) | (obtain ⟨_, _, _, _, _, _, _, rfl, _⟩ := h; rfl) | (obtain ⟨_, _, _, _, _, _, _, _, rfl, _⟩ := h; rfl) | (obtain ⟨_, _, _, _, _, _, _, _, _, rfl, _⟩ := h; rfl)) (fun cdv A outer s H E S0 W hr tk => ab_law_masked Glaw_far Glaw_pick T cdv A outer s H E S0 W hr tk) (rd_law_masked)
  have Glaw_masked : Cal P w K mg base 2 "_law_masked" ["tape", "row"] (sp_law_masked) := ⟨_, _, Olaw_masked, PySem.W.mg_of X G a_law_masked, k_law_masked, F_law_masked.binds (ps := ["tape", "row"]) fun _ _ _ _ _ _ us hl => match us, hl with | [_, _], _ => rfl, ⟨fun s us ws _ hl => match us, ws, hl with | [], [_, _], _ => .of_eq rfl, fun {vs us zs ws} h1 h2 => by cases h1 with | nil => exact h2 | cons _ _ => exact .nil⟩⟩
  have F_law_shown := fun_mk (st := s_law_shown) l_law_shown c_law_shown k_law_shown
  have Olaw_shown := fn_ok (P := P) (w := w) (mg := mg) (base := base) (k := 1) (sp := sp_law_shown) F_law_shown sc_law_shown (by intro ds m P W h; unfold sp_law_shown at h; first | (rcases h with ⟨_, rfl, _⟩ | ⟨_, rfl, _⟩ <;> rfl) | (rcases h with ⟨_, rfl, _⟩ | ⟨_, _, rfl, _⟩ <;> rfl) | (rcases h with ⟨_, rfl, _⟩ | ⟨_, _, _, rfl, _⟩ <;> rfl) | (rcases h with ⟨_, _, rfl, _⟩ | ⟨_, rfl, _⟩ <;> rfl) | (rcases h with ⟨_, _, rfl, _⟩ | ⟨_, _, rfl, _⟩ <;> rfl) | (rcases h with ⟨_, _, rfl, _⟩ | ⟨_, _, _, rfl, _⟩ <;> rfl) | (rcases h with ⟨_, _, _, rfl, _⟩ | ⟨_, rfl, _⟩ <;> rfl) | (rcases h with ⟨_, _, _, rfl, _⟩ | ⟨_, _, rfl, _⟩ <;> rfl) | (rcases h with ⟨_, _, _, rfl, _⟩ | ⟨_, _, _, rfl, _⟩ <;> rfl) | (obtain ⟨_, rfl, _⟩ := h; rfl) | (obtain ⟨_, _, rfl, _⟩ := h; rfl) | (obtain ⟨_, _, _, rfl, _⟩ := h; rfl) | (obtain ⟨_, _, _, _, rfl, _⟩ := h; rfl) | (obtain ⟨_, _, _, _, _, rfl, _⟩ := h; rfl) | (obtain ⟨_, _, _, _, _, _, rfl, _⟩ := h; rfl) | (obtain ⟨_, _, _, _, _, _, _, rfl, _⟩ := h; rfl) | (obtain ⟨_, _, _, _, _, _, _, _, rfl, _⟩ := h; rfl) | (obtain ⟨_, _, _, _, _, _, _, _, _, rfl, _⟩ := h; rfl)) (fun cdv A outer s H E S0 W hr tk => ab_law_shown Glaw_far T cdv A outer s H E S0 W hr tk) (rd_law_shown)
  have Glaw_shown : Cal P w K mg base 2 "_law_shown" ["row"] (sp_law_shown) := ⟨_, _, Olaw_shown, PySem.W.mg_of X G a_law_shown, k_law_shown, F_law_shown.binds (ps := ["row"]) fun _ _ _ _ _ _ us hl => match us, hl with | [_], _ => rfl, ⟨fun s us ws _ hl => match us, ws, hl with | [], [_], _ => .of_eq rfl, fun {vs us zs ws} h1 h2 => by cases h1 with | nil => exact h2 | cons _ _ => exact .nil⟩⟩
  have F_law_same := fun_mk (st := s_law_same) l_law_same c_law_same k_law_same
  have Olaw_same := fn_ok (P := P) (w := w) (mg := mg) (base := base) (k := 0) (sp := sp_law_same) F_law_same sc_law_same (by intro ds m P W h; unfold sp_law_same at h; first | (rcases h with ⟨_, rfl, _⟩ | ⟨_, rfl, _⟩ <;> rfl) | (rcases h with ⟨_, rfl, _⟩ | ⟨_, _, rfl, _⟩ <;> rfl) | (rcases h with ⟨_, rfl, _⟩ | ⟨_, _, _, rfl, _⟩ <;> rfl) | (rcases h with ⟨_, _, rfl, _⟩ | ⟨_, rfl, _⟩ <;> rfl) | (rcases h with ⟨_, _, rfl, _⟩ | ⟨_, _, rfl, _⟩ <;> rfl) | (rcases h with ⟨_, _, rfl, _⟩ | ⟨_, _, _, rfl, _⟩ <;> rfl) | (rcases h with ⟨_, _, _, rfl, _⟩ | ⟨_, rfl, _⟩ <;> rfl) | (rcases h with ⟨_, _, _, rfl, _⟩ | ⟨_, _, rfl, _⟩ <;> rfl) | (rcases h with ⟨_, _, _, rfl, _⟩ | ⟨_, _, _, rfl, _⟩ <;> rfl) | (obtain ⟨_, rfl, _⟩ := h; rfl) | (obtain ⟨_, _, rfl, _⟩ := h; rfl) | (obtain ⟨_, _, _, rfl, _⟩ := h; rfl) | (obtain ⟨_, _, _, _, rfl, _⟩ := h; rfl) | (obtain ⟨_, _, _, _, _, rfl, _⟩ := h; rfl) | (obtain ⟨_, _, _, _, _, _, rfl, _⟩ := h; rfl) | (obtain ⟨_, _, _, _, _, _, _, rfl, _⟩ := h; rfl) | (obtain ⟨_, _, _, _, _, _, _, _, rfl, _⟩ := h; rfl) | (obtain ⟨_, _, _, _, _, _, _, _, _, rfl, _⟩ := h; rfl)) (fun cdv A outer s H E S0 W hr tk => ab_law_same T cdv A outer s H E S0 W hr tk) (rd_law_same)
  have Glaw_same : Cal P w K mg base 1 "_law_same" ["told", "due"] (sp_law_same) := ⟨_, _, Olaw_same, PySem.W.mg_of X G a_law_same, k_law_same, F_law_same.binds (ps := ["told", "due"]) fun _ _ _ _ _ _ us hl => match us, hl with | [_, _], _ => rfl, ⟨fun s us ws _ hl => match us, ws, hl with | [], [_, _], _ => .of_eq rfl, fun {vs us zs ws} h1 h2 => by cases h1 with | nil => exact h2 | cons _ _ => exact .nil⟩⟩
  have F_law_turned := fun_mk (st := s_law_turned) l_law_turned c_law_turned k_law_turned
  have Olaw_turned := fn_ok (P := P) (w := w) (mg := mg) (base := base) (k := 1) (sp := sp_law_turned) F_law_turned sc_law_turned (by intro ds m P W h; unfold sp_law_turned at h; first | (rcases h with ⟨_, rfl, _⟩ | ⟨_, rfl, _⟩ <;> rfl) | (rcases h with ⟨_, rfl, _⟩ | ⟨_, _, rfl, _⟩ <;> rfl) | (rcases h with ⟨_, rfl, _⟩ | ⟨_, _, _, rfl, _⟩ <;> rfl) | (rcases h with ⟨_, _, rfl, _⟩ | ⟨_, rfl, _⟩ <;> rfl) | (rcases h with ⟨_, _, rfl, _⟩ | ⟨_, _, rfl, _⟩ <;> rfl) | (rcases h with ⟨_, _, rfl, _⟩ | ⟨_, _, _, rfl, _⟩ <;> rfl) | (rcases h with ⟨_, _, _, rfl, _⟩ | ⟨_, rfl, _⟩ <;> rfl) | (rcases h with ⟨_, _, _, rfl, _⟩ | ⟨_, _, rfl, _⟩ <;> rfl) | (rcases h with ⟨_, _, _, rfl, _⟩ | ⟨_, _, _, rfl, _⟩ <;> rfl) | (obtain ⟨_, rfl, _⟩ := h; rfl) | (obtain ⟨_, _, rfl, _⟩ := h; rfl) | (obtain ⟨_, _, _, rfl, _⟩ := h; rfl) | (obtain ⟨_, _, _, _, rfl, _⟩ := h; rfl) | (obtain ⟨_, _, _, _, _, rfl, _⟩ := h; rfl) | (obtain ⟨_, _, _, _, _, _, rfl, _⟩ := h; rfl) | (obtain ⟨_, _, _, _, _, _, _, rfl, _⟩ := h; rfl) | (obtain ⟨_, _, _, _, _, _, _, _, rfl, _⟩ := h; rfl) | (obtain ⟨_, _, _, _, _, _, _, _, _, rfl, _⟩ := h; rfl)) (fun cdv A outer s H E S0 W hr tk => ab_law_turned Glaw_pick T cdv A outer s H E S0 W hr tk) (rd_law_turned)
  have Glaw_turned : Cal P w K mg base 2 "_law_turned" ["tape", "line"] (sp_law_turned) := ⟨_, _, Olaw_turned, PySem.W.mg_of X G a_law_turned, k_law_turned, F_law_turned.binds (ps := ["tape", "line"]) fun _ _ _ _ _ _ us hl => match us, hl with | [_, _], _ => rfl, ⟨fun s us ws _ hl => match us, ws, hl with | [], [_, _], _ => .of_eq rfl, fun {vs us zs ws} h1 h2 => by cases h1 with | nil => exact h2 | cons _ _ => exact .nil⟩⟩
  have F_shown := fun_mk (st := s_shown) l_shown c_shown k_shown
  have Oshown := fn_ok (P := P) (w := w) (mg := mg) (base := base) (k := 0) (sp := sp_shown) F_shown sc_shown (by intro ds m P W h; unfold sp_shown at h; first | (rcases h with ⟨_, rfl, _⟩ | ⟨_, rfl, _⟩ <;> rfl) | (rcases h with ⟨_, rfl, _⟩ | ⟨_, _, rfl, _⟩ <;> rfl) | (rcases h with ⟨_, rfl, _⟩ | ⟨_, _, _, rfl, _⟩ <;> rfl) | (rcases h with ⟨_, _, rfl, _⟩ | ⟨_, rfl, _⟩ <;> rfl) | (rcases h with ⟨_, _, rfl, _⟩ | ⟨_, _, rfl, _⟩ <;> rfl) | (rcases h with ⟨_, _, rfl, _⟩ | ⟨_, _, _, rfl, _⟩ <;> rfl) | (rcases h with ⟨_, _, _, rfl, _⟩ | ⟨_, rfl, _⟩ <;> rfl) | (rcases h with ⟨_, _, _, rfl, _⟩ | ⟨_, _, rfl, _⟩ <;> rfl) | (rcases h with ⟨_, _, _, rfl, _⟩ | ⟨_, _, _, rfl, _⟩ <;> rfl) | (obtain ⟨_, rfl, _⟩ := h; rfl) | (obtain ⟨_, _, rfl, _⟩ := h; rfl) | (obtain ⟨_, _, _, rfl, _⟩ := h; rfl) | (obtain ⟨_, _, _, _, rfl, _⟩ := h; rfl) | (obtain ⟨_, _, _, _, _, rfl, _⟩ := h; rfl) | (obtain ⟨_, _, _, _, _, _, rfl, _⟩ := h; rfl) | (obtain ⟨_, _, _, _, _, _, _, rfl, _⟩ := h; rfl) | (obtain ⟨_, _, _, _, _, _, _, _, rfl, _⟩ := h; rfl) | (obtain ⟨_, _, _, _, _, _, _, _, _, rfl, _⟩ := h; rfl)) (fun cdv A outer s H E S0 W hr tk => ab_shown  cdv A outer s H E S0 W hr tk) (rd_shown)
  have Gshown : Cal P w K mg base 1 "shown" ["tree"] (sp_shown) := ⟨_, _, Oshown, PySem.W.mg_of X G a_shown, k_shown, F_shown.binds (ps := ["tree"]) fun _ _ _ _ _ _ us hl => match us, hl with | [_], _ => rfl, ⟨fun s us ws _ hl => match us, ws, hl with | [], [_], _ => .of_eq rfl, fun {vs us zs ws} h1 h2 => by cases h1 with | nil => exact h2 | cons _ _ => exact .nil⟩⟩
  have F_law_built := fun_mk (st := s_law_built) l_law_built c_law_built k_law_built
  have Olaw_built := fn_ok (P := P) (w := w) (mg := mg) (base := base) (k := 1) (sp := sp_law_built) F_law_built sc_law_built (by intro ds m P W h; unfold sp_law_built at h; first | (rcases h with ⟨_, rfl, _⟩ | ⟨_, rfl, _⟩ <;> rfl) | (rcases h with ⟨_, rfl, _⟩ | ⟨_, _, rfl, _⟩ <;> rfl) | (rcases h with ⟨_, rfl, _⟩ | ⟨_, _, _, rfl, _⟩ <;> rfl) | (rcases h with ⟨_, _, rfl, _⟩ | ⟨_, rfl, _⟩ <;> rfl) | (rcases h with ⟨_, _, rfl, _⟩ | ⟨_, _, rfl, _⟩ <;> rfl) | (rcases h with ⟨_, _, rfl, _⟩ | ⟨_, _, _, rfl, _⟩ <;> rfl) | (rcases h with ⟨_, _, _, rfl, _⟩ | ⟨_, rfl, _⟩ <;> rfl) | (rcases h with ⟨_, _, _, rfl, _⟩ | ⟨_, _, rfl, _⟩ <;> rfl) | (rcases h with ⟨_, _, _, rfl, _⟩ | ⟨_, _, _, rfl, _⟩ <;> rfl) | (obtain ⟨_, rfl, _⟩ := h; rfl) | (obtain ⟨_, _, rfl, _⟩ := h; rfl) | (obtain ⟨_, _, _, rfl, _⟩ := h; rfl) | (obtain ⟨_, _, _, _, rfl, _⟩ := h; rfl) | (obtain ⟨_, _, _, _, _, rfl, _⟩ := h; rfl) | (obtain ⟨_, _, _, _, _, _, rfl, _⟩ := h; rfl) | (obtain ⟨_, _, _, _, _, _, _, rfl, _⟩ := h; rfl) | (obtain ⟨_, _, _, _, _, _, _, _, rfl, _⟩ := h; rfl) | (obtain ⟨_, _, _, _, _, _, _, _, _, rfl, _⟩ := h; rfl)) (fun cdv A outer s H E S0 W hr tk => ab_law_built Glaw_pick T cdv A outer s H E S0 W hr tk) (rd_law_built)
  have Glaw_built : Cal P w K mg base 2 "_law_built" ["tape"] (sp_law_built) := ⟨_, _, Olaw_built, PySem.W.mg_of X G a_law_built, k_law_built, F_law_built.binds (ps := ["tape"]) fun _ _ _ _ _ _ us hl => match us, hl with | [_], _ => rfl, ⟨fun s us ws _ hl => match us, ws, hl with | [], [_], _ => .of_eq rfl, fun {vs us zs ws} h1 h2 => by cases h1 with | nil => exact h2 | cons _ _ => exact .nil⟩⟩
  have F_law_read := fun_mk (st := s_law_read) l_law_read c_law_read k_law_read
  have Olaw_read := fn_ok (P := P) (w := w) (mg := mg) (base := base) (k := 0) (sp := sp_law_read) F_law_read sc_law_read (by intro ds m P W h; unfold sp_law_read at h; first | (rcases h with ⟨_, rfl, _⟩ | ⟨_, rfl, _⟩ <;> rfl) | (rcases h with ⟨_, rfl, _⟩ | ⟨_, _, rfl, _⟩ <;> rfl) | (rcases h with ⟨_, rfl, _⟩ | ⟨_, _, _, rfl, _⟩ <;> rfl) | (rcases h with ⟨_, _, rfl, _⟩ | ⟨_, rfl, _⟩ <;> rfl) | (rcases h with ⟨_, _, rfl, _⟩ | ⟨_, _, rfl, _⟩ <;> rfl) | (rcases h with ⟨_, _, rfl, _⟩ | ⟨_, _, _, rfl, _⟩ <;> rfl) | (rcases h with ⟨_, _, _, rfl, _⟩ | ⟨_, rfl, _⟩ <;> rfl) | (rcases h with ⟨_, _, _, rfl, _⟩ | ⟨_, _, rfl, _⟩ <;> rfl) | (rcases h with ⟨_, _, _, rfl, _⟩ | ⟨_, _, _, rfl, _⟩ <;> rfl) | (obtain ⟨_, rfl, _⟩ := h; rfl) | (obtain ⟨_, _, rfl, _⟩ := h; rfl) | (obtain ⟨_, _, _, rfl, _⟩ := h; rfl) | (obtain ⟨_, _, _, _, rfl, _⟩ := h; rfl) | (obtain ⟨_, _, _, _, _, rfl, _⟩ := h; rfl) | (obtain ⟨_, _, _, _, _, _, rfl, _⟩ := h; rfl) | (obtain ⟨_, _, _, _, _, _, _, rfl, _⟩ := h; rfl) | (obtain ⟨_, _, _, _, _, _, _, _, rfl, _⟩ := h; rfl) | (obtain ⟨_, _, _, _, _, _, _, _, _, rfl, _⟩ := h; rfl)) (fun cdv A outer s H E S0 W hr tk => ab_law_read T cdv A outer s H E S0 W hr tk) (rd_law_read)
  have Glaw_read : Cal P w K mg base 1 "_law_read" ["line", "holes"] (sp_law_read) := ⟨_, _, Olaw_read, PySem.W.mg_of X G a_law_read, k_law_read, F_law_read.binds (ps := ["line", "holes"]) fun _ _ _ _ _ _ us hl => match us, hl with | [_, _], _ => rfl, ⟨fun s us ws _ hl => match us, ws, hl with | [], [_, _], _ => .of_eq rfl, fun {vs us zs ws} h1 h2 => by cases h1 with | nil => exact h2 | cons _ _ => exact .nil⟩⟩
  have F_need := fun_mk (st := s_need) l_need c_need k_need
  have Oneed := fn_ok (P := P) (w := w) (mg := mg) (base := base) (k := 2) (sp := sp_need C_NotUsable) F_need sc_need (by intro ds m P W h; unfold sp_need at h; first | (rcases h with ⟨_, rfl, _⟩ | ⟨_, rfl, _⟩ <;> rfl) | (rcases h with ⟨_, rfl, _⟩ | ⟨_, _, rfl, _⟩ <;> rfl) | (rcases h with ⟨_, rfl, _⟩ | ⟨_, _, _, rfl, _⟩ <;> rfl) | (rcases h with ⟨_, _, rfl, _⟩ | ⟨_, rfl, _⟩ <;> rfl) | (rcases h with ⟨_, _, rfl, _⟩ | ⟨_, _, rfl, _⟩ <;> rfl) | (rcases h with ⟨_, _, rfl, _⟩ | ⟨_, _, _, rfl, _⟩ <;> rfl) | (rcases h with ⟨_, _, _, rfl, _⟩ | ⟨_, rfl, _⟩ <;> rfl) | (rcases h with ⟨_, _, _, rfl, _⟩ | ⟨_, _, rfl, _⟩ <;> rfl) | (rcases h with ⟨_, _, _, rfl, _⟩ | ⟨_, _, _, rfl, _⟩ <;> rfl) | (obtain ⟨_, rfl, _⟩ := h; rfl) | (obtain ⟨_, _, rfl, _⟩ := h; rfl) | (obtain ⟨_, _, _, rfl, _⟩ := h; rfl) | (obtain ⟨_, _, _, _, rfl, _⟩ := h; rfl) | (obtain ⟨_, _, _, _, _, rfl, _⟩ := h; rfl) | (obtain ⟨_, _, _, _, _, _, rfl, _⟩ := h; rfl) | (obtain ⟨_, _, _, _, _, _, _, rfl, _⟩ := h; rfl) | (obtain ⟨_, _, _, _, _, _, _, _, rfl, _⟩ := h; rfl) | (obtain ⟨_, _, _, _, _, _, _, _, _, rfl, _⟩ := h; rfl)) (fun cdv A outer s H E S0 W hr tk => ab_need R_NotUsable cdv A outer s H E S0 W hr tk) (rd_need)
  have Gneed : Cal P w K mg base 3 "need" ["holds", "name"] (sp_need C_NotUsable) := ⟨_, _, Oneed, PySem.W.mg_of X G a_need, k_need, F_need.binds (ps := ["holds", "name"]) fun _ _ _ _ _ _ us hl => match us, hl with | [_, _], _ => rfl, ⟨fun s us ws _ hl => match us, ws, hl with | [], [_, _], _ => .of_eq rfl, fun {vs us zs ws} h1 h2 => by cases h1 with | nil => exact h2 | cons _ _ => exact .nil⟩⟩
  have F_TreeReader_sign := fun_mk (st := s_TreeReader_sign) l_TreeReader_sign c_TreeReader_sign k_TreeReader_sign
  have OTreeReader_sign := fn_ok (P := P) (w := w) (mg := mg) (base := base) (k := 0) (sp := sp_sign C_TreeReader) F_TreeReader_sign sc_TreeReader_sign (by intro ds m P W h; unfold sp_sign at h; first | (rcases h with ⟨_, rfl, _⟩ | ⟨_, rfl, _⟩ <;> rfl) | (rcases h with ⟨_, rfl, _⟩ | ⟨_, _, rfl, _⟩ <;> rfl) | (rcases h with ⟨_, rfl, _⟩ | ⟨_, _, _, rfl, _⟩ <;> rfl) | (rcases h with ⟨_, _, rfl, _⟩ | ⟨_, rfl, _⟩ <;> rfl) | (rcases h with ⟨_, _, rfl, _⟩ | ⟨_, _, rfl, _⟩ <;> rfl) | (rcases h with ⟨_, _, rfl, _⟩ | ⟨_, _, _, rfl, _⟩ <;> rfl) | (rcases h with ⟨_, _, _, rfl, _⟩ | ⟨_, rfl, _⟩ <;> rfl) | (rcases h with ⟨_, _, _, rfl, _⟩ | ⟨_, _, rfl, _⟩ <;> rfl) | (rcases h with ⟨_, _, _, rfl, _⟩ | ⟨_, _, _, rfl, _⟩ <;> rfl) | (obtain ⟨_, rfl, _⟩ := h; rfl) | (obtain ⟨_, _, rfl, _⟩ := h; rfl) | (obtain ⟨_, _, _, rfl, _⟩ := h; rfl) | (obtain ⟨_, _, _, _, rfl, _⟩ := h; rfl) | (obtain ⟨_, _, _, _, _, rfl, _⟩ := h; rfl) | (obtain ⟨_, _, _, _, _, _, rfl, _⟩ := h; rfl) | (obtain ⟨_, _, _, _, _, _, _, rfl, _⟩ := h; rfl) | (obtain ⟨_, _, _, _, _, _, _, _, rfl, _⟩ := h; rfl) | (obtain ⟨_, _, _, _, _, _, _, _, _, rfl, _⟩ := h; rfl)) (fun cdv A outer s H E S0 W hr tk => ab_TreeReader_sign na_TreeReader_at na_TreeReader_text K_TreeReader cdv A outer s H E S0 W hr tk) (rd_sign)
  have GTreeReader_sign : CalM P w K mg base 1 C_TreeReader "sign" ["self"] (sp_sign C_TreeReader) := ⟨_, _, OTreeReader_sign, ⟨a_TreeReader_sign, i_TreeReader_sign, k_TreeReader_sign⟩, F_TreeReader_sign.binds (ps := ["self"]) fun _ _ _ _ _ _ us hl => match us, hl with | [_], _ => rfl⟩
  have F_TreeReader_refuse := fun_mk (st := s_TreeReader_refuse) l_TreeReader_refuse c_TreeReader_refuse k_TreeReader_refuse
  have OTreeReader_refuse := fn_ok (P := P) (w := w) (mg := mg) (base := base) (k := 2) (sp := sp_refuse C_TreeReader C_InvalidText) F_TreeReader_refuse sc_TreeReader_refuse (by intro ds m P W h; unfold sp_refuse at h; first | (rcases h with ⟨_, rfl, _⟩ | ⟨_, rfl, _⟩ <;> rfl) | (rcases h with ⟨_, rfl, _⟩ | ⟨_, _, rfl, _⟩ <;> rfl) | (rcases h with ⟨_, rfl, _⟩ | ⟨_, _, _, rfl, _⟩ <;> rfl) | (rcases h with ⟨_, _, rfl, _⟩ | ⟨_, rfl, _⟩ <;> rfl) | (rcases h with ⟨_, _, rfl, _⟩ | ⟨_, _, rfl, _⟩ <;> rfl) | (rcases h with ⟨_, _, rfl, _⟩ | ⟨_, _, _, rfl, _⟩ <;> rfl) | (rcases h with ⟨_, _, _, rfl, _⟩ | ⟨_, rfl, _⟩ <;> rfl) | (rcases h with ⟨_, _, _, rfl, _⟩ | ⟨_, _, rfl, _⟩ <;> rfl) | (rcases h with ⟨_, _, _, rfl, _⟩ | ⟨_, _, _, rfl, _⟩ <;> rfl) | (obtain ⟨_, rfl, _⟩ := h; rfl) | (obtain ⟨_, _, rfl, _⟩ := h; rfl) | (obtain ⟨_, _, _, rfl, _⟩ := h; rfl) | (obtain ⟨_, _, _, _, rfl, _⟩ := h; rfl) | (obtain ⟨_, _, _, _, _, rfl, _⟩ := h; rfl) | (obtain ⟨_, _, _, _, _, _, rfl, _⟩ := h; rfl) | (obtain ⟨_, _, _, _, _, _, _, rfl, _⟩ := h; rfl) | (obtain ⟨_, _, _, _, _, _, _, _, rfl, _⟩ := h; rfl) | (obtain ⟨_, _, _, _, _, _, _, _, _, rfl, _⟩ := h; rfl)) (fun cdv A outer s H E S0 W hr tk => ab_TreeReader_refuse na_TreeReader_at K_TreeReader R_InvalidText cdv A outer s H E S0 W hr tk) (rd_refuse)
  have GTreeReader_refuse : CalM P w K mg base 3 C_TreeReader "refuse" ["self"] (sp_refuse C_TreeReader C_InvalidText) := ⟨_, _, OTreeReader_refuse, ⟨a_TreeReader_refuse, i_TreeReader_refuse, k_TreeReader_refuse⟩, F_TreeReader_refuse.binds (ps := ["self"]) fun _ _ _ _ _ _ us hl => match us, hl with | [_], _ => rfl⟩
  have F_TreeReader_read_word_rest := fun_mk (st := s_TreeReader_read_word_rest) l_TreeReader_read_word_rest c_TreeReader_read_word_rest k_TreeReader_read_word_rest
  have OTreeReader_read_word_rest := fn_ok (P := P) (w := w) (mg := mg) (base := base) (k := 1) (sp := sp_rest C_TreeReader) F_TreeReader_read_word_rest sc_TreeReader_read_word_rest (by intro ds m P W h; unfold sp_rest at h; first | (rcases h with ⟨_, rfl, _⟩ | ⟨_, rfl, _⟩ <;> rfl) | (rcases h with ⟨_, rfl, _⟩ | ⟨_, _, rfl, _⟩ <;> rfl) | (rcases h with ⟨_, rfl, _⟩ | ⟨_, _, _, rfl, _⟩ <;> rfl) | (rcases h with ⟨_, _, rfl, _⟩ | ⟨_, rfl, _⟩ <;> rfl) | (rcases h with ⟨_, _, rfl, _⟩ | ⟨_, _, rfl, _⟩ <;> rfl) | (rcases h with ⟨_, _, rfl, _⟩ | ⟨_, _, _, rfl, _⟩ <;> rfl) | (rcases h with ⟨_, _, _, rfl, _⟩ | ⟨_, rfl, _⟩ <;> rfl) | (rcases h with ⟨_, _, _, rfl, _⟩ | ⟨_, _, rfl, _⟩ <;> rfl) | (rcases h with ⟨_, _, _, rfl, _⟩ | ⟨_, _, _, rfl, _⟩ <;> rfl) | (obtain ⟨_, rfl, _⟩ := h; rfl) | (obtain ⟨_, _, rfl, _⟩ := h; rfl) | (obtain ⟨_, _, _, rfl, _⟩ := h; rfl) | (obtain ⟨_, _, _, _, rfl, _⟩ := h; rfl) | (obtain ⟨_, _, _, _, _, rfl, _⟩ := h; rfl) | (obtain ⟨_, _, _, _, _, _, rfl, _⟩ := h; rfl) | (obtain ⟨_, _, _, _, _, _, _, rfl, _⟩ := h; rfl) | (obtain ⟨_, _, _, _, _, _, _, _, rfl, _⟩ := h; rfl) | (obtain ⟨_, _, _, _, _, _, _, _, _, rfl, _⟩ := h; rfl)) (fun cdv A outer s H E S0 W hr tk => ab_TreeReader_read_word_rest na_TreeReader_at GTreeReader_sign G_LONGEST_WORD G_WORD_SIGNS K_TreeReader cdv A outer s H E S0 W hr tk) (rd_rest)
  have GTreeReader_read_word_rest : CalM P w K mg base 2 C_TreeReader "read_word_rest" ["self", "begin"] (sp_rest C_TreeReader) := ⟨_, _, OTreeReader_read_word_rest, ⟨a_TreeReader_read_word_rest, i_TreeReader_read_word_rest, k_TreeReader_read_word_rest⟩, F_TreeReader_read_word_rest.binds (ps := ["self", "begin"]) fun _ _ _ _ _ _ us hl => match us, hl with | [_, _], _ => rfl⟩
  have F_TreeReader_read_symbol := fun_mk (st := s_TreeReader_read_symbol) l_TreeReader_read_symbol c_TreeReader_read_symbol k_TreeReader_read_symbol
  have OTreeReader_read_symbol := fn_ok (P := P) (w := w) (mg := mg) (base := base) (k := 3) (sp := sp_symbol C_TreeReader C_InvalidText) F_TreeReader_read_symbol sc_TreeReader_read_symbol (by intro ds m P W h; unfold sp_symbol at h; first | (rcases h with ⟨_, rfl, _⟩ | ⟨_, rfl, _⟩ <;> rfl) | (rcases h with ⟨_, rfl, _⟩ | ⟨_, _, rfl, _⟩ <;> rfl) | (rcases h with ⟨_, rfl, _⟩ | ⟨_, _, _, rfl, _⟩ <;> rfl) | (rcases h with ⟨_, _, rfl, _⟩ | ⟨_, rfl, _⟩ <;> rfl) | (rcases h with ⟨_, _, rfl, _⟩ | ⟨_, _, rfl, _⟩ <;> rfl) | (rcases h with ⟨_, _, rfl, _⟩ | ⟨_, _, _, rfl, _⟩ <;> rfl) | (rcases h with ⟨_, _, _, rfl, _⟩ | ⟨_, rfl, _⟩ <;> rfl) | (rcases h with ⟨_, _, _, rfl, _⟩ | ⟨_, _, rfl, _⟩ <;> rfl) | (rcases h with ⟨_, _, _, rfl, _⟩ | ⟨_, _, _, rfl, _⟩ <;> rfl) | (obtain ⟨_, rfl, _⟩ := h; rfl) | (obtain ⟨_, _, rfl, _⟩ := h; rfl) | (obtain ⟨_, _, _, rfl, _⟩ := h; rfl) | (obtain ⟨_, _, _, _, rfl, _⟩ := h; rfl) | (obtain ⟨_, _, _, _, _, rfl, _⟩ := h; rfl) | (obtain ⟨_, _, _, _, _, _, rfl, _⟩ := h; rfl) | (obtain ⟨_, _, _, _, _, _, _, rfl, _⟩ := h; rfl) | (obtain ⟨_, _, _, _, _, _, _, _, rfl, _⟩ := h; rfl) | (obtain ⟨_, _, _, _, _, _, _, _, _, rfl, _⟩ := h; rfl)) (fun cdv A outer s H E S0 W hr tk => ab_TreeReader_read_symbol na_TreeReader_at na_TreeReader_entries na_TreeReader_single_signs na_TreeReader_text GTreeReader_read_word_rest GTreeReader_refuse GTreeReader_sign G_LETTERS K_TreeReader cdv A outer s H E S0 W hr tk) (rd_symbol)
  have GTreeReader_read_symbol : CalM P w K mg base 4 C_TreeReader "read_symbol" ["self"] (sp_symbol C_TreeReader C_InvalidText) := ⟨_, _, OTreeReader_read_symbol, ⟨a_TreeReader_read_symbol, i_TreeReader_read_symbol, k_TreeReader_read_symbol⟩, F_TreeReader_read_symbol.binds (ps := ["self"]) fun _ _ _ _ _ _ us hl => match us, hl with | [_], _ => rfl⟩
  have F_TreeReader_open_bracket := fun_mk (st := s_TreeReader_open_bracket) l_TreeReader_open_bracket c_TreeReader_open_bracket k_TreeReader_open_bracket
  have OTreeReader_open_bracket := fn_ok (P := P) (w := w) (mg := mg) (base := base) (k := 0) (sp := sp_open C_TreeReader) F_TreeReader_open_bracket sc_TreeReader_open_bracket (by intro ds m P W h; unfold sp_open at h; first | (rcases h with ⟨_, rfl, _⟩ | ⟨_, rfl, _⟩ <;> rfl) | (rcases h with ⟨_, rfl, _⟩ | ⟨_, _, rfl, _⟩ <;> rfl) | (rcases h with ⟨_, rfl, _⟩ | ⟨_, _, _, rfl, _⟩ <;> rfl) | (rcases h with ⟨_, _, rfl, _⟩ | ⟨_, rfl, _⟩ <;> rfl) | (rcases h with ⟨_, _, rfl, _⟩ | ⟨_, _, rfl, _⟩ <;> rfl) | (rcases h with ⟨_, _, rfl, _⟩ | ⟨_, _, _, rfl, _⟩ <;> rfl) | (rcases h with ⟨_, _, _, rfl, _⟩ | ⟨_, rfl, _⟩ <;> rfl) | (rcases h with ⟨_, _, _, rfl, _⟩ | ⟨_, _, rfl, _⟩ <;> rfl) | (rcases h with ⟨_, _, _, rfl, _⟩ | ⟨_, _, _, rfl, _⟩ <;> rfl) | (obtain ⟨_, rfl, _⟩ := h; rfl) | (obtain ⟨_, _, rfl, _⟩ := h; rfl) | (obtain ⟨_, _, _, rfl, _⟩ := h; rfl) | (obtain ⟨_, _, _, _, rfl, _⟩ := h; rfl) | (obtain ⟨_, _, _, _, _, rfl, _⟩ := h; rfl) | (obtain ⟨_, _, _, _, _, _, rfl, _⟩ := h; rfl) | (obtain ⟨_, _, _, _, _, _, _, rfl, _⟩ := h; rfl) | (obtain ⟨_, _, _, _, _, _, _, _, rfl, _⟩ := h; rfl) | (obtain ⟨_, _, _, _, _, _, _, _, _, rfl, _⟩ := h; rfl)) (fun cdv A outer s H E S0 W hr tk => ab_TreeReader_open_bracket na_TreeReader_at na_TreeReader_entries na_TreeReader_open_entries K_TreeReader cdv A outer s H E S0 W hr tk) (rd_open)
  have GTreeReader_open_bracket : CalM P w K mg base 1 C_TreeReader "open_bracket" ["self"] (sp_open C_TreeReader) := ⟨_, _, OTreeReader_open_bracket, ⟨a_TreeReader_open_bracket, i_TreeReader_open_bracket, k_TreeReader_open_bracket⟩, F_TreeReader_open_bracket.binds (ps := ["self"]) fun _ _ _ _ _ _ us hl => match us, hl with | [_], _ => rfl⟩
  have F_TreeReader_read_ends := fun_mk (st := s_TreeReader_read_ends) l_TreeReader_read_ends c_TreeReader_read_ends k_TreeReader_read_ends
  have OTreeReader_read_ends := fn_ok (P := P) (w := w) (mg := mg) (base := base) (k := 3) (sp := sp_ends C_TreeReader C_InvalidText) F_TreeReader_read_ends sc_TreeReader_read_ends (by intro ds m P W h; unfold sp_ends at h; first | (rcases h with ⟨_, rfl, _⟩ | ⟨_, rfl, _⟩ <;> rfl) | (rcases h with ⟨_, rfl, _⟩ | ⟨_, _, rfl, _⟩ <;> rfl) | (rcases h with ⟨_, rfl, _⟩ | ⟨_, _, _, rfl, _⟩ <;> rfl) | (rcases h with ⟨_, _, rfl, _⟩ | ⟨_, rfl, _⟩ <;> rfl) | (rcases h with ⟨_, _, rfl, _⟩ | ⟨_, _, rfl, _⟩ <;> rfl) | (rcases h with ⟨_, _, rfl, _⟩ | ⟨_, _, _, rfl, _⟩ <;> rfl) | (rcases h with ⟨_, _, _, rfl, _⟩ | ⟨_, rfl, _⟩ <;> rfl) | (rcases h with ⟨_, _, _, rfl, _⟩ | ⟨_, _, rfl, _⟩ <;> rfl) | (rcases h with ⟨_, _, _, rfl, _⟩ | ⟨_, _, _, rfl, _⟩ <;> rfl) | (obtain ⟨_, rfl, _⟩ := h; rfl) | (obtain ⟨_, _, rfl, _⟩ := h; rfl) | (obtain ⟨_, _, _, rfl, _⟩ := h; rfl) | (obtain ⟨_, _, _, _, rfl, _⟩ := h; rfl) | (obtain ⟨_, _, _, _, _, rfl, _⟩ := h; rfl) | (obtain ⟨_, _, _, _, _, _, rfl, _⟩ := h; rfl) | (obtain ⟨_, _, _, _, _, _, _, rfl, _⟩ := h; rfl) | (obtain ⟨_, _, _, _, _, _, _, _, rfl, _⟩ := h; rfl) | (obtain ⟨_, _, _, _, _, _, _, _, _, rfl, _⟩ := h; rfl)) (fun cdv A outer s H E S0 W hr tk => ab_TreeReader_read_ends na_TreeReader_at na_TreeReader_open_entries GTreeReader_refuse GTreeReader_sign G_MOST_PARTS K_TreeReader cdv A outer s H E S0 W hr tk) (rd_ends)
  have GTreeReader_read_ends : CalM P w K mg base 4 C_TreeReader "read_ends" ["self"] (sp_ends C_TreeReader C_InvalidText) := ⟨_, _, OTreeReader_read_ends, ⟨a_TreeReader_read_ends, i_TreeReader_read_ends, k_TreeReader_read_ends⟩, F_TreeReader_read_ends.binds (ps := ["self"]) fun _ _ _ _ _ _ us hl => match us, hl with | [_], _ => rfl⟩
  have F_TreeReader_read_all := fun_mk (st := s_TreeReader_read_all) l_TreeReader_read_all c_TreeReader_read_all k_TreeReader_read_all
  have OTreeReader_read_all := fn_ok (P := P) (w := w) (mg := mg) (base := base) (k := 4) (sp := sp_all C_TreeReader C_InvalidText) F_TreeReader_read_all sc_TreeReader_read_all (by intro ds m P W h; unfold sp_all at h; first | (rcases h with ⟨_, rfl, _⟩ | ⟨_, rfl, _⟩ <;> rfl) | (rcases h with ⟨_, rfl, _⟩ | ⟨_, _, rfl, _⟩ <;> rfl) | (rcases h with ⟨_, rfl, _⟩ | ⟨_, _, _, rfl, _⟩ <;> rfl) | (rcases h with ⟨_, _, rfl, _⟩ | ⟨_, rfl, _⟩ <;> rfl) | (rcases h with ⟨_, _, rfl, _⟩ | ⟨_, _, rfl, _⟩ <;> rfl) | (rcases h with ⟨_, _, rfl, _⟩ | ⟨_, _, _, rfl, _⟩ <;> rfl) | (rcases h with ⟨_, _, _, rfl, _⟩ | ⟨_, rfl, _⟩ <;> rfl) | (rcases h with ⟨_, _, _, rfl, _⟩ | ⟨_, _, rfl, _⟩ <;> rfl) | (rcases h with ⟨_, _, _, rfl, _⟩ | ⟨_, _, _, rfl, _⟩ <;> rfl) | (obtain ⟨_, rfl, _⟩ := h; rfl) | (obtain ⟨_, _, rfl, _⟩ := h; rfl) | (obtain ⟨_, _, _, rfl, _⟩ := h; rfl) | (obtain ⟨_, _, _, _, rfl, _⟩ := h; rfl) | (obtain ⟨_, _, _, _, _, rfl, _⟩ := h; rfl) | (obtain ⟨_, _, _, _, _, _, rfl, _⟩ := h; rfl) | (obtain ⟨_, _, _, _, _, _, _, rfl, _⟩ := h; rfl) | (obtain ⟨_, _, _, _, _, _, _, _, rfl, _⟩ := h; rfl) | (obtain ⟨_, _, _, _, _, _, _, _, _, rfl, _⟩ := h; rfl)) (fun cdv A outer s H E S0 W hr tk => ab_TreeReader_read_all na_TreeReader_at na_TreeReader_entries na_TreeReader_text GTreeReader_open_bracket GTreeReader_read_ends GTreeReader_read_symbol GTreeReader_refuse GTreeReader_sign K_TreeReader T cdv A outer s H E S0 W hr tk) (rd_all)
  have GTreeReader_read_all : CalM P w K mg base 5 C_TreeReader "read_all" ["self"] (sp_all C_TreeReader C_InvalidText) := ⟨_, _, OTreeReader_read_all, ⟨a_TreeReader_read_all, i_TreeReader_read_all, k_TreeReader_read_all⟩, F_TreeReader_read_all.binds (ps := ["self"]) fun _ _ _ _ _ _ us hl => match us, hl with | [_], _ => rfl⟩
  have F_TreeReader_init := fun_mk (st := s_TreeReader_init) l_TreeReader_init c_TreeReader_init k_TreeReader_init
  have OTreeReader_init := fn_ok (P := P) (w := w) (mg := mg) (base := base) (k := 0) (sp := sp_init C_TreeReader) F_TreeReader_init sc_TreeReader_init (by intro ds m P W h; unfold sp_init at h; first | (rcases h with ⟨_, rfl, _⟩ | ⟨_, rfl, _⟩ <;> rfl) | (rcases h with ⟨_, rfl, _⟩ | ⟨_, _, rfl, _⟩ <;> rfl) | (rcases h with ⟨_, rfl, _⟩ | ⟨_, _, _, rfl, _⟩ <;> rfl) | (rcases h with ⟨_, _, rfl, _⟩ | ⟨_, rfl, _⟩ <;> rfl) | (rcases h with ⟨_, _, rfl, _⟩ | ⟨_, _, rfl, _⟩ <;> rfl) | (rcases h with ⟨_, _, rfl, _⟩ | ⟨_, _, _, rfl, _⟩ <;> rfl) | (rcases h with ⟨_, _, _, rfl, _⟩ | ⟨_, rfl, _⟩ <;> rfl) | (rcases h with ⟨_, _, _, rfl, _⟩ | ⟨_, _, rfl, _⟩ <;> rfl) | (rcases h with ⟨_, _, _, rfl, _⟩ | ⟨_, _, _, rfl, _⟩ <;> rfl) | (obtain ⟨_, rfl, _⟩ := h; rfl) | (obtain ⟨_, _, rfl, _⟩ := h; rfl) | (obtain ⟨_, _, _, rfl, _⟩ := h; rfl) | (obtain ⟨_, _, _, _, rfl, _⟩ := h; rfl) | (obtain ⟨_, _, _, _, _, rfl, _⟩ := h; rfl) | (obtain ⟨_, _, _, _, _, _, rfl, _⟩ := h; rfl) | (obtain ⟨_, _, _, _, _, _, _, rfl, _⟩ := h; rfl) | (obtain ⟨_, _, _, _, _, _, _, _, rfl, _⟩ := h; rfl) | (obtain ⟨_, _, _, _, _, _, _, _, _, rfl, _⟩ := h; rfl)) (fun cdv A outer s H E S0 W hr tk => ab_TreeReader_init na_TreeReader_at na_TreeReader_entries na_TreeReader_open_entries na_TreeReader_single_signs na_TreeReader_text G_HOLE G_SILENT K_TreeReader cdv A outer s H E S0 W hr tk) (rd_init)
  have GTreeReader_init : CalI P w K mg base 1 "TreeReader" C_TreeReader ["self", "text", "may_have_holes"] (sp_init C_TreeReader) := ⟨⟨_, _, OTreeReader_init, ⟨mkTreeReader, a_TreeReader_init, i_TreeReader_init, kcTreeReader⟩, PySem.W.mg_of X G aTreeReader, F_TreeReader_init.binds (ps := ["self", "text", "may_have_holes"]) fun _ _ _ _ _ _ us hl => match us, hl with | [_, _, _], _ => rfl⟩, fun ds m Q W ⟨o, dx, t, h, h1, h2, h3⟩ => ⟨o, dx, t, h, h1, h2, fun ea oa m' a b c d e f g => ⟨rfl, h3 ea oa m' a b c d e f g⟩⟩⟩
  have F_read_tree := fun_mk (st := s_read_tree) l_read_tree c_read_tree k_read_tree
  have Oread_tree := fn_ok (P := P) (w := w) (mg := mg) (base := base) (k := 5) (sp := sp_reads false C_InvalidText C_NotUsable) F_read_tree sc_read_tree (by intro ds m P W h; unfold sp_reads at h; first | (rcases h with ⟨_, rfl, _⟩ | ⟨_, rfl, _⟩ <;> rfl) | (rcases h with ⟨_, rfl, _⟩ | ⟨_, _, rfl, _⟩ <;> rfl) | (rcases h with ⟨_, rfl, _⟩ | ⟨_, _, _, rfl, _⟩ <;> rfl) | (rcases h with ⟨_, _, rfl, _⟩ | ⟨_, rfl, _⟩ <;> rfl) | (rcases h with ⟨_, _, rfl, _⟩ | ⟨_, _, rfl, _⟩ <;> rfl) | (rcases h with ⟨_, _, rfl, _⟩ | ⟨_, _, _, rfl, _⟩ <;> rfl) | (rcases h with ⟨_, _, _, rfl, _⟩ | ⟨_, rfl, _⟩ <;> rfl) | (rcases h with ⟨_, _, _, rfl, _⟩ | ⟨_, _, rfl, _⟩ <;> rfl) | (rcases h with ⟨_, _, _, rfl, _⟩ | ⟨_, _, _, rfl, _⟩ <;> rfl) | (obtain ⟨_, rfl, _⟩ := h; rfl) | (obtain ⟨_, _, rfl, _⟩ := h; rfl) | (obtain ⟨_, _, _, rfl, _⟩ := h; rfl) | (obtain ⟨_, _, _, _, rfl, _⟩ := h; rfl) | (obtain ⟨_, _, _, _, _, rfl, _⟩ := h; rfl) | (obtain ⟨_, _, _, _, _, _, rfl, _⟩ := h; rfl) | (obtain ⟨_, _, _, _, _, _, _, rfl, _⟩ := h; rfl) | (obtain ⟨_, _, _, _, _, _, _, _, rfl, _⟩ := h; rfl) | (obtain ⟨_, _, _, _, _, _, _, _, _, rfl, _⟩ := h; rfl)) (fun cdv A outer s H E S0 W hr tk => ab_read_tree GTreeReader_init GTreeReader_read_all Gneed K_TreeReader T cdv A outer s H E S0 W hr tk) (rd_read_tree)
  have Gread_tree : Cal P w K mg base 6 "read_tree" ["text"] (sp_reads false C_InvalidText C_NotUsable) := ⟨_, _, Oread_tree, PySem.W.mg_of X G a_read_tree, k_read_tree, F_read_tree.binds (ps := ["text"]) fun _ _ _ _ _ _ us hl => match us, hl with | [_], _ => rfl, ⟨fun s us ws _ hl => match us, ws, hl with | [], [_], _ => .of_eq rfl, fun {vs us zs ws} h1 h2 => by cases h1 with | nil => exact h2 | cons _ _ => exact .nil⟩⟩
  have F_read_pattern := fun_mk (st := s_read_pattern) l_read_pattern c_read_pattern k_read_pattern
  have Oread_pattern := fn_ok (P := P) (w := w) (mg := mg) (base := base) (k := 5) (sp := sp_reads true C_InvalidText C_NotUsable) F_read_pattern sc_read_pattern (by intro ds m P W h; unfold sp_reads at h; first | (rcases h with ⟨_, rfl, _⟩ | ⟨_, rfl, _⟩ <;> rfl) | (rcases h with ⟨_, rfl, _⟩ | ⟨_, _, rfl, _⟩ <;> rfl) | (rcases h with ⟨_, rfl, _⟩ | ⟨_, _, _, rfl, _⟩ <;> rfl) | (rcases h with ⟨_, _, rfl, _⟩ | ⟨_, rfl, _⟩ <;> rfl) | (rcases h with ⟨_, _, rfl, _⟩ | ⟨_, _, rfl, _⟩ <;> rfl) | (rcases h with ⟨_, _, rfl, _⟩ | ⟨_, _, _, rfl, _⟩ <;> rfl) | (rcases h with ⟨_, _, _, rfl, _⟩ | ⟨_, rfl, _⟩ <;> rfl) | (rcases h with ⟨_, _, _, rfl, _⟩ | ⟨_, _, rfl, _⟩ <;> rfl) | (rcases h with ⟨_, _, _, rfl, _⟩ | ⟨_, _, _, rfl, _⟩ <;> rfl) | (obtain ⟨_, rfl, _⟩ := h; rfl) | (obtain ⟨_, _, rfl, _⟩ := h; rfl) | (obtain ⟨_, _, _, rfl, _⟩ := h; rfl) | (obtain ⟨_, _, _, _, rfl, _⟩ := h; rfl) | (obtain ⟨_, _, _, _, _, rfl, _⟩ := h; rfl) | (obtain ⟨_, _, _, _, _, _, rfl, _⟩ := h; rfl) | (obtain ⟨_, _, _, _, _, _, _, rfl, _⟩ := h; rfl) | (obtain ⟨_, _, _, _, _, _, _, _, rfl, _⟩ := h; rfl) | (obtain ⟨_, _, _, _, _, _, _, _, _, rfl, _⟩ := h; rfl)) (fun cdv A outer s H E S0 W hr tk => ab_read_pattern GTreeReader_init GTreeReader_read_all Gneed K_TreeReader T cdv A outer s H E S0 W hr tk) (rd_read_pattern)
  have Gread_pattern : Cal P w K mg base 6 "read_pattern" ["text"] (sp_reads true C_InvalidText C_NotUsable) := ⟨_, _, Oread_pattern, PySem.W.mg_of X G a_read_pattern, k_read_pattern, F_read_pattern.binds (ps := ["text"]) fun _ _ _ _ _ _ us hl => match us, hl with | [_], _ => rfl, ⟨fun s us ws _ hl => match us, ws, hl with | [], [_], _ => .of_eq rfl, fun {vs us zs ws} h1 h2 => by cases h1 with | nil => exact h2 | cons _ _ => exact .nil⟩⟩
  have F_law_asks := fun_mk (st := s_law_asks) l_law_asks c_law_asks k_law_asks
  have Olaw_asks := fn_ok (P := P) (w := w) (mg := mg) (base := base) (k := 6) (sp := sp_law_asks) F_law_asks sc_law_asks (by intro ds m P W h; unfold sp_law_asks at h; first | (rcases h with ⟨_, rfl, _⟩ | ⟨_, rfl, _⟩ <;> rfl) | (rcases h with ⟨_, rfl, _⟩ | ⟨_, _, rfl, _⟩ <;> rfl) | (rcases h with ⟨_, rfl, _⟩ | ⟨_, _, _, rfl, _⟩ <;> rfl) | (rcases h with ⟨_, _, rfl, _⟩ | ⟨_, rfl, _⟩ <;> rfl) | (rcases h with ⟨_, _, rfl, _⟩ | ⟨_, _, rfl, _⟩ <;> rfl) | (rcases h with ⟨_, _, rfl, _⟩ | ⟨_, _, _, rfl, _⟩ <;> rfl) | (rcases h with ⟨_, _, _, rfl, _⟩ | ⟨_, rfl, _⟩ <;> rfl) | (rcases h with ⟨_, _, _, rfl, _⟩ | ⟨_, _, rfl, _⟩ <;> rfl) | (rcases h with ⟨_, _, _, rfl, _⟩ | ⟨_, _, _, rfl, _⟩ <;> rfl) | (obtain ⟨_, rfl, _⟩ := h; rfl) | (obtain ⟨_, _, rfl, _⟩ := h; rfl) | (obtain ⟨_, _, _, rfl, _⟩ := h; rfl) | (obtain ⟨_, _, _, _, rfl, _⟩ := h; rfl) | (obtain ⟨_, _, _, _, _, rfl, _⟩ := h; rfl) | (obtain ⟨_, _, _, _, _, _, rfl, _⟩ := h; rfl) | (obtain ⟨_, _, _, _, _, _, _, rfl, _⟩ := h; rfl) | (obtain ⟨_, _, _, _, _, _, _, _, rfl, _⟩ := h; rfl) | (obtain ⟨_, _, _, _, _, _, _, _, _, rfl, _⟩ := h; rfl)) (fun cdv A outer s H E S0 W hr tk => ab_law_asks E_InvalidText E_NotUsable ⟨_, .ref C_TextError, PySem.W.mg_of X G aTextError, rfl, fun _ => rfl⟩ ⟨_, .ref C_UseError, PySem.W.mg_of X G aUseError, rfl, fun _ => rfl⟩ Gread_pattern Gread_tree H_InvalidText H_NotUsable na_InvalidText_at na_InvalidText_line na_NotUsable_at na_NotUsable_word kit_InvalidText_TextError kit_NotUsable_UseError T X_InvalidText X_NotUsable cdv A outer s H E S0 W hr tk) (rd_law_asks exm_NotUsable_InvalidText)
  have Glaw_asks : Cal P w K mg base 7 "_law_asks" ["line", "holes"] (sp_law_asks) := ⟨_, _, Olaw_asks, PySem.W.mg_of X G a_law_asks, k_law_asks, F_law_asks.binds (ps := ["line", "holes"]) fun _ _ _ _ _ _ us hl => match us, hl with | [_, _], _ => rfl, ⟨fun s us ws _ hl => match us, ws, hl with | [], [_, _], _ => .of_eq rfl, fun {vs us zs ws} h1 h2 => by cases h1 with | nil => exact h2 | cons _ _ => exact .nil⟩⟩
  have F_law_right := fun_mk (st := s_law_right) l_law_right c_law_right k_law_right
  have Olaw_right := fn_ok (P := P) (w := w) (mg := mg) (base := base) (k := 7) (sp := sp_law_right) F_law_right sc_law_right (by intro ds m P W h; unfold sp_law_right at h; first | (rcases h with ⟨_, rfl, _⟩ | ⟨_, rfl, _⟩ <;> rfl) | (rcases h with ⟨_, rfl, _⟩ | ⟨_, _, rfl, _⟩ <;> rfl) | (rcases h with ⟨_, rfl, _⟩ | ⟨_, _, _, rfl, _⟩ <;> rfl) | (rcases h with ⟨_, _, rfl, _⟩ | ⟨_, rfl, _⟩ <;> rfl) | (rcases h with ⟨_, _, rfl, _⟩ | ⟨_, _, rfl, _⟩ <;> rfl) | (rcases h with ⟨_, _, rfl, _⟩ | ⟨_, _, _, rfl, _⟩ <;> rfl) | (rcases h with ⟨_, _, _, rfl, _⟩ | ⟨_, rfl, _⟩ <;> rfl) | (rcases h with ⟨_, _, _, rfl, _⟩ | ⟨_, _, rfl, _⟩ <;> rfl) | (rcases h with ⟨_, _, _, rfl, _⟩ | ⟨_, _, _, rfl, _⟩ <;> rfl) | (obtain ⟨_, rfl, _⟩ := h; rfl) | (obtain ⟨_, _, rfl, _⟩ := h; rfl) | (obtain ⟨_, _, _, rfl, _⟩ := h; rfl) | (obtain ⟨_, _, _, _, rfl, _⟩ := h; rfl) | (obtain ⟨_, _, _, _, _, rfl, _⟩ := h; rfl) | (obtain ⟨_, _, _, _, _, _, rfl, _⟩ := h; rfl) | (obtain ⟨_, _, _, _, _, _, _, rfl, _⟩ := h; rfl) | (obtain ⟨_, _, _, _, _, _, _, _, rfl, _⟩ := h; rfl) | (obtain ⟨_, _, _, _, _, _, _, _, _, rfl, _⟩ := h; rfl)) (fun cdv A outer s H E S0 W hr tk => ab_law_right Glaw_asks Glaw_read Glaw_same Gshown cdv A outer s H E S0 W hr tk) (rd_law_right)
  have Glaw_right : Cal P w K mg base 8 "_law_right" ["line"] (sp_law_right) := ⟨_, _, Olaw_right, PySem.W.mg_of X G a_law_right, k_law_right, F_law_right.binds (ps := ["line"]) fun _ _ _ _ _ _ us hl => match us, hl with | [_], _ => rfl, ⟨fun s us ws _ hl => match us, ws, hl with | [], [_], _ => .of_eq rfl, fun {vs us zs ws} h1 h2 => by cases h1 with | nil => exact h2 | cons _ _ => exact .nil⟩⟩
  have F_law_refusals := fun_mk (st := s_law_refusals) l_law_refusals c_law_refusals k_law_refusals
  have Olaw_refusals := fn_ok (P := P) (w := w) (mg := mg) (base := base) (k := 7) (sp := sp_law_refusals) F_law_refusals sc_law_refusals (by intro ds m P W h; unfold sp_law_refusals at h; first | (rcases h with ⟨_, rfl, _⟩ | ⟨_, rfl, _⟩ <;> rfl) | (rcases h with ⟨_, rfl, _⟩ | ⟨_, _, rfl, _⟩ <;> rfl) | (rcases h with ⟨_, rfl, _⟩ | ⟨_, _, _, rfl, _⟩ <;> rfl) | (rcases h with ⟨_, _, rfl, _⟩ | ⟨_, rfl, _⟩ <;> rfl) | (rcases h with ⟨_, _, rfl, _⟩ | ⟨_, _, rfl, _⟩ <;> rfl) | (rcases h with ⟨_, _, rfl, _⟩ | ⟨_, _, _, rfl, _⟩ <;> rfl) | (rcases h with ⟨_, _, _, rfl, _⟩ | ⟨_, rfl, _⟩ <;> rfl) | (rcases h with ⟨_, _, _, rfl, _⟩ | ⟨_, _, rfl, _⟩ <;> rfl) | (rcases h with ⟨_, _, _, rfl, _⟩ | ⟨_, _, _, rfl, _⟩ <;> rfl) | (obtain ⟨_, rfl, _⟩ := h; rfl) | (obtain ⟨_, _, rfl, _⟩ := h; rfl) | (obtain ⟨_, _, _, rfl, _⟩ := h; rfl) | (obtain ⟨_, _, _, _, rfl, _⟩ := h; rfl) | (obtain ⟨_, _, _, _, _, rfl, _⟩ := h; rfl) | (obtain ⟨_, _, _, _, _, _, rfl, _⟩ := h; rfl) | (obtain ⟨_, _, _, _, _, _, _, rfl, _⟩ := h; rfl) | (obtain ⟨_, _, _, _, _, _, _, _, rfl, _⟩ := h; rfl) | (obtain ⟨_, _, _, _, _, _, _, _, _, rfl, _⟩ := h; rfl)) (fun cdv A outer s H E S0 W hr tk => ab_law_refusals Glaw_asks Glaw_pick Glaw_same T cdv A outer s H E S0 W hr tk) (rd_law_refusals)
  have Glaw_refusals : Cal P w K mg base 8 "_law_refusals" ["tape", "tall"] (sp_law_refusals) := ⟨_, _, Olaw_refusals, PySem.W.mg_of X G a_law_refusals, k_law_refusals, F_law_refusals.binds (ps := ["tape", "tall"]) fun _ _ _ _ _ _ us hl => match us, hl with | [_, _], _ => rfl, ⟨fun s us ws _ hl => match us, ws, hl with | [], [_, _], _ => .of_eq rfl, fun {vs us zs ws} h1 h2 => by cases h1 with | nil => exact h2 | cons _ _ => exact .nil⟩⟩
  have F_law := fun_mk (st := s_law) l_law c_law k_law
  have Olaw := fn_ok (P := P) (w := w) (mg := mg) (base := base) (k := 8) (sp := sp_law) F_law sc_law (by intro ds m P W h; unfold sp_law at h; first | (rcases h with ⟨_, rfl, _⟩ | ⟨_, rfl, _⟩ <;> rfl) | (rcases h with ⟨_, rfl, _⟩ | ⟨_, _, rfl, _⟩ <;> rfl) | (rcases h with ⟨_, rfl, _⟩ | ⟨_, _, _, rfl, _⟩ <;> rfl) | (rcases h with ⟨_, _, rfl, _⟩ | ⟨_, rfl, _⟩ <;> rfl) | (rcases h with ⟨_, _, rfl, _⟩ | ⟨_, _, rfl, _⟩ <;> rfl) | (rcases h with ⟨_, _, rfl, _⟩ | ⟨_, _, _, rfl, _⟩ <;> rfl) | (rcases h with ⟨_, _, _, rfl, _⟩ | ⟨_, rfl, _⟩ <;> rfl) | (rcases h with ⟨_, _, _, rfl, _⟩ | ⟨_, _, rfl, _⟩ <;> rfl) | (rcases h with ⟨_, _, _, rfl, _⟩ | ⟨_, _, _, rfl, _⟩ <;> rfl) | (obtain ⟨_, rfl, _⟩ := h; rfl) | (obtain ⟨_, _, rfl, _⟩ := h; rfl) | (obtain ⟨_, _, _, rfl, _⟩ := h; rfl) | (obtain ⟨_, _, _, _, rfl, _⟩ := h; rfl) | (obtain ⟨_, _, _, _, _, rfl, _⟩ := h; rfl) | (obtain ⟨_, _, _, _, _, _, rfl, _⟩ := h; rfl) | (obtain ⟨_, _, _, _, _, _, _, rfl, _⟩ := h; rfl) | (obtain ⟨_, _, _, _, _, _, _, _, rfl, _⟩ := h; rfl) | (obtain ⟨_, _, _, _, _, _, _, _, _, rfl, _⟩ := h; rfl)) (fun cdv A outer s H E S0 W hr tk => ab_law Glaw_built Glaw_marks Glaw_masked Glaw_pick Glaw_refusals Glaw_right Glaw_same Glaw_shown Glaw_tape Glaw_tree Glaw_turned Gread_pattern Gread_tree Gshown T cdv A outer s H E S0 W hr tk) (rd_law)
  exact Olaw
theorem walk {l : PySem.W.OpenLaw} {q : Program} {loose : List Str} {XP : (Str → Option Value) → Heap → Prop} {YP : World → Heap → Prop} {d : DefRec} {K : Params → PySem.W.Frag} (hn : l.most = some 63) (hdf : d.params.defaults = [])
    (hY : ∀ (w : World) (h : Heap), YP w h → (K w.params).In h)
    (F : ∀ (w : World) (mg : Str → Option Value) (fa : Addr) (h : Heap), (K w.params).In h → h.Ns mainGlobals mg → mg d.name = some (.ref fa) →
      ∃ fd : FuncData, (∀ (s : Shared) (u : Value), BindsTo s fd ⟨[u], []⟩ [("script", u)]) ∧ ∀ base : Heap, (K w.params).In base → base.Ns mainGlobals mg → FnOk l.prog w (K w.params) mg base (L2.CX l.prog w) 9 fa fd ["script"] (lift (K w.params) sp_law)) :
    PySem.W.WalkO q loose XP YP l.row.toRowW d [] (fun f vs => PySem.call f vs) := by
  refine L2.walk_of (n := 63) (k := 9) (x := "script") (CX := fun w => L2.CX l.prog w) (sp := fun w => lift (K w.params) sp_law) hn (by decide) hdf ⟨rfl, by decide, by decide⟩ hY F (fun w H a ns hl hO hS => ?_) fun w H s e s' z => ?_
  · have hR : R (fun _ => none) H = H := rfl
    refine ⟨[.scr ns], fun _ => none, fun d _ => d = .bl true, fun _ _ _ => False, ⟨.ref a, [], rfl, ⟨a, rfl, hS⟩, rfl⟩, fun _ _ z => (by cases z), ⟨ns, rfl, hl, rfl⟩, fun v H' d m' hp _ dv => ?_, fun cls d H' z => (noW z).elim⟩
    subst hp
    exact dv
  · obtain ⟨_, _, _, _, _, _, _, _, _, _, _, _, y⟩ := z
    exact y.elim
end AL
open PySem PySem.W PyProof.Rows in
set_option maxRecDepth 100000 in
set_option maxHeartbeats 0 in
theorem PySem.Challenge.cw_stoodthere_k16_whole_texts_of_trees_holds : PySem.Challenge.rw_stoodthere_k16_whole_texts_of_trees.Holds := by
  w_on; o_law; k_head; (case hw => w_witness2)
  k_fill
  refine AL.walk (l := PySem.Challenge.rw_stoodthere_k16_whole_texts_of_trees) rfl rfl (fun w h Y => PySem.W.kIn_of Y) ?F
  case F =>
    intro w mg fa h KX G hmg
    refine' AL.all_mk KX G hmg ?aInvalidText ?aNotUsable ?aTextError ?aTreeReader ?aUseError ?pgTreeReader ?hdTreeReader ?poTreeReader ?saTreeReader ?mkTreeReader ?kcTreeReader ?na_TreeReader_at ?na_TreeReader_entries ?na_TreeReader_open_entries ?na_TreeReader_single_signs ?na_TreeReader_text ?g_HOLE ?gl_HOLE ?g_LETTERS ?g_LONGEST_WORD ?g_MOST_PARTS ?g_SILENT ?g_WORD_SIGNS ?z_len ?z_int ?z_abs ?z_max ?z_min ?z_bool ?z_str ?z_tuple ?z_list ?z_range ?z_isinstance ?gaInvalidText ?ggInvalidText ?eCInvalidText ?tCInvalidText ?hCInvalidText ?iCInvalidText ?sCInvalidText ?kCInvalidText ?gaNotUsable ?ggNotUsable ?eCNotUsable ?tCNotUsable ?hCNotUsable ?iCNotUsable ?sCNotUsable ?kCNotUsable ?xLInvalidText ?saInvalidText ?na_InvalidText_line ?na_InvalidText_at ?i_InvalidText ?ti_InvalidText ?l_InvalidText_init ?c_InvalidText_init ?k_InvalidText_init ?xLNotUsable ?saNotUsable ?na_NotUsable_word ?na_NotUsable_at ?i_NotUsable ?ti_NotUsable ?l_NotUsable_init ?c_NotUsable_init ?k_NotUsable_init ?er_sg ?er_tk ?caInvalidText ?obInvalidText ?caNotUsable ?obNotUsable ?iDInvalidText_TextError ?tDInvalidText_TextError ?sDInvalidText_TextError ?iDNotUsable_UseError ?tDNotUsable_UseError ?sDNotUsable_UseError ?sXNotUsable_InvalidText ?a_law_tape ?l_law_tape ?c_law_tape ?k_law_tape ?a_law_pick ?l_law_pick ?c_law_pick ?k_law_pick ?a_law_marks ?l_law_marks ?c_law_marks ?k_law_marks ?a_law_tree ?l_law_tree ?c_law_tree ?k_law_tree ?a_law_far ?l_law_far ?c_law_far ?k_law_far ?a_law_masked ?l_law_masked ?c_law_masked ?k_law_masked ?a_law_shown ?l_law_shown ?c_law_shown ?k_law_shown ?a_law_same ?l_law_same ?c_law_same ?k_law_same ?a_law_turned ?l_law_turned ?c_law_turned ?k_law_turned ?a_shown ?l_shown ?c_shown ?k_shown ?a_law_built ?l_law_built ?c_law_built ?k_law_built ?a_law_read ?l_law_read ?c_law_read ?k_law_read ?a_need ?l_need ?c_need ?k_need ?a_TreeReader_sign ?i_TreeReader_sign ?l_TreeReader_sign ?c_TreeReader_sign ?k_TreeReader_sign ?a_TreeReader_refuse ?i_TreeReader_refuse ?l_TreeReader_refuse ?c_TreeReader_refuse ?k_TreeReader_refuse ?a_TreeReader_read_word_rest ?i_TreeReader_read_word_rest ?l_TreeReader_read_word_rest ?c_TreeReader_read_word_rest ?k_TreeReader_read_word_rest ?a_TreeReader_read_symbol ?i_TreeReader_read_symbol ?l_TreeReader_read_symbol ?c_TreeReader_read_symbol ?k_TreeReader_read_symbol ?a_TreeReader_open_bracket ?i_TreeReader_open_bracket ?l_TreeReader_open_bracket ?c_TreeReader_open_bracket ?k_TreeReader_open_bracket ?a_TreeReader_read_ends ?i_TreeReader_read_ends ?l_TreeReader_read_ends ?c_TreeReader_read_ends ?k_TreeReader_read_ends ?a_TreeReader_read_all ?i_TreeReader_read_all ?l_TreeReader_read_all ?c_TreeReader_read_all ?k_TreeReader_read_all ?a_TreeReader_init ?i_TreeReader_init ?l_TreeReader_init ?c_TreeReader_init ?k_TreeReader_init ?a_read_tree ?l_read_tree ?c_read_tree ?k_read_tree ?a_read_pattern ?l_read_pattern ?c_read_pattern ?k_read_pattern ?a_law_asks ?l_law_asks ?c_law_asks ?k_law_asks ?a_law_right ?l_law_right ?c_law_right ?k_law_right ?a_law_refusals ?l_law_refusals ?c_law_refusals ?k_law_refusals ?a_law ?l_law ?c_law ?k_law
    (case aInvalidText => k_is)
    (case aNotUsable => k_is)
    (case aTextError => k_is)
    (case aTreeReader => k_is)
    (case aUseError => k_is)
    (case pgTreeReader => k_is)
    (case hdTreeReader => k_is)
    (case poTreeReader => k_is)
    (case saTreeReader => k_is)
    (case mkTreeReader => k_is)
    (case kcTreeReader => k_is)
    (case na_TreeReader_at => k_is)
    (case na_TreeReader_entries => k_is)
    (case na_TreeReader_open_entries => k_is)
    (case na_TreeReader_single_signs => k_is)
    (case na_TreeReader_text => k_is)
    (case g_HOLE => k_is)
    (case gl_HOLE => k_is)
    (case g_LETTERS => k_is)
    (case g_LONGEST_WORD => k_is)
    (case g_MOST_PARTS => k_is)
    (case g_SILENT => k_is)
    (case g_WORD_SIGNS => k_is)
    (case z_len => k_is)
    (case z_int => k_is)
    (case z_abs => k_is)
    (case z_max => k_is)
    (case z_min => k_is)
    (case z_bool => k_is)
    (case z_str => k_is)
    (case z_tuple => k_is)
    (case z_list => k_is)
    (case z_range => k_is)
    (case z_isinstance => k_is)
    (case gaInvalidText => k_is)
    (case ggInvalidText => k_is)
    (case eCInvalidText => k_is)
    (case tCInvalidText => k_is)
    (case hCInvalidText => k_is)
    (case iCInvalidText => k_is)
    (case sCInvalidText => k_is)
    (case kCInvalidText => k_is)
    (case gaNotUsable => k_is)
    (case ggNotUsable => k_is)
    (case eCNotUsable => k_is)
    (case tCNotUsable => k_is)
    (case hCNotUsable => k_is)
    (case iCNotUsable => k_is)
    (case sCNotUsable => k_is)
    (case kCNotUsable => k_is)
    (case xLInvalidText => k_is)
    (case saInvalidText => k_is)
    (case na_InvalidText_line => k_is)
    (case na_InvalidText_at => k_is)
    (case i_InvalidText => k_is)
    (case ti_InvalidText => k_is)
    (case l_InvalidText_init => k_is)
    (case c_InvalidText_init => k_is)
    (case k_InvalidText_init => k_is)
    (case xLNotUsable => k_is)
    (case saNotUsable => k_is)
    (case na_NotUsable_word => k_is)
    (case na_NotUsable_at => k_is)
    (case i_NotUsable => k_is)
    (case ti_NotUsable => k_is)
    (case l_NotUsable_init => k_is)
    (case c_NotUsable_init => k_is)
    (case k_NotUsable_init => k_is)
    (case er_sg => k_is)
    (case er_tk => k_is)
    (case caInvalidText => k_is)
    (case obInvalidText => k_is)
    (case caNotUsable => k_is)
    (case obNotUsable => k_is)
    (case iDInvalidText_TextError => k_is)
    (case tDInvalidText_TextError => k_is)
    (case sDInvalidText_TextError => k_is)
    (case iDNotUsable_UseError => k_is)
    (case tDNotUsable_UseError => k_is)
    (case sDNotUsable_UseError => k_is)
    (case sXNotUsable_InvalidText => k_is)
    (case a_law_tape => k_is)
    (case l_law_tape => k_is)
    (case c_law_tape => k_is)
    (case k_law_tape => k_is)
    (case a_law_pick => k_is)
    (case l_law_pick => k_is)
    (case c_law_pick => k_is)
    (case k_law_pick => k_is)
    (case a_law_marks => k_is)
    (case l_law_marks => k_is)
    (case c_law_marks => k_is)
    (case k_law_marks => k_is)
    (case a_law_tree => k_is)
    (case l_law_tree => k_is)
    (case c_law_tree => k_is)
    (case k_law_tree => k_is)
    (case a_law_far => k_is)
    (case l_law_far => k_is)
    (case c_law_far => k_is)
    (case k_law_far => k_is)
    (case a_law_masked => k_is)
    (case l_law_masked => k_is)
    (case c_law_masked => k_is)
    (case k_law_masked => k_is)
    (case a_law_shown => k_is)
    (case l_law_shown => k_is)
    (case c_law_shown => k_is)
    (case k_law_shown => k_is)
    (case a_law_same => k_is)
    (case l_law_same => k_is)
    (case c_law_same => k_is)
    (case k_law_same => k_is)
    (case a_law_turned => k_is)
    (case l_law_turned => k_is)
    (case c_law_turned => k_is)
    (case k_law_turned => k_is)
    (case a_shown => k_is)
    (case l_shown => k_is)
    (case c_shown => k_is)
    (case k_shown => k_is)
    (case a_law_built => k_is)
    (case l_law_built => k_is)
    (case c_law_built => k_is)
    (case k_law_built => k_is)
    (case a_law_read => k_is)
    (case l_law_read => k_is)
    (case c_law_read => k_is)
    (case k_law_read => k_is)
    (case a_need => k_is)
    (case l_need => k_is)
    (case c_need => k_is)
    (case k_need => k_is)
    (case a_TreeReader_sign => k_is)
    (case i_TreeReader_sign => k_is)
    (case l_TreeReader_sign => k_is)
    (case c_TreeReader_sign => k_is)
    (case k_TreeReader_sign => k_is)
    (case a_TreeReader_refuse => k_is)
    (case i_TreeReader_refuse => k_is)
    (case l_TreeReader_refuse => k_is)
    (case c_TreeReader_refuse => k_is)
    (case k_TreeReader_refuse => k_is)
    (case a_TreeReader_read_word_rest => k_is)
    (case i_TreeReader_read_word_rest => k_is)
    (case l_TreeReader_read_word_rest => k_is)
    (case c_TreeReader_read_word_rest => k_is)
    (case k_TreeReader_read_word_rest => k_is)
    (case a_TreeReader_read_symbol => k_is)
    (case i_TreeReader_read_symbol => k_is)
    (case l_TreeReader_read_symbol => k_is)
    (case c_TreeReader_read_symbol => k_is)
    (case k_TreeReader_read_symbol => k_is)
    (case a_TreeReader_open_bracket => k_is)
    (case i_TreeReader_open_bracket => k_is)
    (case l_TreeReader_open_bracket => k_is)
    (case c_TreeReader_open_bracket => k_is)
    (case k_TreeReader_open_bracket => k_is)
    (case a_TreeReader_read_ends => k_is)
    (case i_TreeReader_read_ends => k_is)
    (case l_TreeReader_read_ends => k_is)
    (case c_TreeReader_read_ends => k_is)
    (case k_TreeReader_read_ends => k_is)
    (case a_TreeReader_read_all => k_is)
    (case i_TreeReader_read_all => k_is)
    (case l_TreeReader_read_all => k_is)
    (case c_TreeReader_read_all => k_is)
    (case k_TreeReader_read_all => k_is)
    (case a_TreeReader_init => k_is)
    (case i_TreeReader_init => k_is)
    (case l_TreeReader_init => k_is)
    (case c_TreeReader_init => k_is)
    (case k_TreeReader_init => k_is)
    (case a_read_tree => k_is)
    (case l_read_tree => k_is)
    (case c_read_tree => k_is)
    (case k_read_tree => k_is)
    (case a_read_pattern => k_is)
    (case l_read_pattern => k_is)
    (case c_read_pattern => k_is)
    (case k_read_pattern => k_is)
    (case a_law_asks => k_is)
    (case l_law_asks => k_is)
    (case c_law_asks => k_is)
    (case k_law_asks => k_is)
    (case a_law_right => k_is)
    (case l_law_right => k_is)
    (case c_law_right => k_is)
    (case k_law_right => k_is)
    (case a_law_refusals => k_is)
    (case l_law_refusals => k_is)
    (case c_law_refusals => k_is)
    (case k_law_refusals => k_is)
    (case a_law => k_is)
    (case l_law => k_is)
    (case c_law => k_is)
    (case k_law => k_is)
#print axioms PySem.Challenge.cw_stoodthere_k16_whole_texts_of_trees_holds
