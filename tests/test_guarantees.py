"""What [11] guarantees, (G1) to (G12), over books, sentences and grammars that are drawn here."""

import unittest

from stoodthere.canons import canon_of
from stoodthere.chainchecker import lets_chain
from stoodthere.chainpapers import chain_bound, chain_paper, joins_count
from stoodthere.closedtests import is_closed
from stoodthere.closings import closing
from stoodthere.counts import lot_size
from stoodthere.dials import boldest_of
from stoodthere.errors import AtOdds, InvalidPaper, StoodError
from stoodthere.fairness import is_fair, is_plain, name_kinds
from stoodthere.finers import finer_pair
from stoodthere.found import grammar_of
from stoodthere.holes import hole_names
from stoodthere.joinlists import joins_of
from stoodthere.joinpapers import join_paper
from stoodthere.journals import fresh_desk
from stoodthere.kinds import kind_of
from stoodthere.learners import Learner
from stoodthere.led import led_on
from stoodthere.ledtrees import is_led
from stoodthere.lessons import lessons_of
from stoodthere.making import takes
from stoodthere.maps import within_map
from stoodthere.numbering import number_of, tree_at
from stoodthere.orders import in_order, is_ahead
from stoodthere.partings import lies_within
from stoodthere.piecelists import levels_of, pieces_of
from stoodthere.pieces import piece_at, with_piece
from stoodthere.plainclasses import plain_classes
from stoodthere.rounds import fourths_of
from stoodthere.splits import split_of
from stoodthere.teachers import Teacher
from stoodthere.teaching import question_bound, unused_rules
from stoodthere.trims import plain_of, teaching_number
from stoodthere.verdictchecker import lets_verdict
from stoodthere.verdicts import odds_of, verdict_of, verdict_paper
from tests import oracle
from tests.checks import Checks
from tests.samples import BOOKS, SMALL_SYMBOLS, SMALL_TREES, Draw, drawn_driven, drawn_grammar, drawn_sentences

FEW = tuple(SMALL_TREES[:40])
FOUR = tuple(tree for tree in SMALL_TREES if len(tree) <= 4)
SHALLOW_BOOKS = tuple((("depth", 2),) if book == (("depth", 60),) else book for book in BOOKS)


def drawn(seed, many, trees=FEW, most=5):
    """So many books with drawn sentences and their found grammar."""
    draw = Draw(seed)
    for k in range(many):
        book = BOOKS[k % len(BOOKS)]
        sentences = drawn_sentences(draw, 1 + draw.below(most), trees)
        yield draw, book, sentences, grammar_of(book, sentences)


def once(trees):
    return tuple(dict.fromkeys(trees))


class TestGuarantees(Checks, unittest.TestCase):

    def test_g1_order(self):
        draw = Draw(570)
        for _ in range(300):
            one, two, tree = draw.one_of(SMALL_TREES), draw.one_of(SMALL_TREES), draw.one_of(FEW)
            self.assertEqual([is_ahead(one, two), one == two, is_ahead(two, one)].count(True), 1)
            node = draw.below(len(tree))
            self.assert_same(is_ahead(with_piece(tree, node, one), with_piece(tree, node, two)), is_ahead(one, two))

    def test_g1_kinds_and_places(self):
        for draw, book, _, fair in drawn(571, 100):
            lot = [tree for tree in SMALL_TREES if takes(fair, tree)]
            places = {}
            for tree in lot:
                for node in range(len(tree)):
                    places.setdefault(oracle.place(tree, node), []).append(piece_at(tree, node))
            stands = {}
            for place, pieces in places.items():
                for piece in pieces:
                    stands.setdefault(piece, set()).add(place)
            for place, pieces in draw.some_of(sorted(places.items()), 12):
                for one in pieces:
                    for two in pieces:
                        if kind_of(book, one) == kind_of(book, two):
                            wholes = [place[0] + piece + place[1] for piece in (one, two)]
                            self.assertEqual(kind_of(book, wholes[0]), kind_of(book, wholes[1]))
                            for other in stands[one]:
                                self.assertTrue(takes(fair, other[0] + two + other[1]))

    def test_g1_finer_books(self):
        draw = Draw(572)
        finer = 0
        for _ in range(300):
            one, two = draw.one_of(SHALLOW_BOOKS), draw.one_of(SHALLOW_BOOKS)
            sentences = drawn_sentences(draw, 1 + draw.below(4), FEW)
            if finer_pair(one, two, SMALL_SYMBOLS) is None:
                finer += one != two
                self.assert_same(lies_within(grammar_of(one, sentences), grammar_of(two, sentences)), True)
        self.assertGreater(finer, 30)

    def test_g2(self):
        for _, book, sentences, fair in drawn(573, 100, FOUR):
            self.assert_same((is_fair(book, fair), is_closed(book, fair)), (True, True))
            joins = joins_of(book, sentences)
            self.assertEqual(len(joins), len(pieces_of(sentences)) - len(plain_classes(book, sentences)))
            most = max(map(len, sentences))
            grown = oracle.Lot(book, sentences).closed_to(most)
            self.assertEqual(grown, tuple(tree for tree in FOUR if len(tree) <= most and takes(fair, tree)))

    def test_g3(self):
        draw = Draw(574)
        seen = {True: 0, False: 0}
        for k in range(250):
            book = BOOKS[k % len(BOOKS)]
            first = drawn_sentences(draw, 1 + draw.below(4), FOUR)
            second = tuple(draw.some_of(first, len(first) - 1)) if draw.below(2) else drawn_sentences(draw, 2, FOUR)
            one, two = grammar_of(book, second), grammar_of(book, first)
            within = lies_within(one, two)
            seen[within] += 1
            self.assert_same(one == two, within and lies_within(two, one))
            told = within_map(book, one, two)
            self.assert_same(told is not None, within)
            # There is at most one such map: all others are tried where they are few.
            if two[0] ** one[0] <= 300:
                maps = [names for names in self.all_maps(one[0], two[0]) if self.carries(names, one, two)]
                self.assert_same(maps, [] if told is None else [told])
        self.assertGreater(min(seen.values()), 50)

    def all_maps(self, many, names):
        maps = [()]
        for _ in range(many):
            maps = [names_so_far + (name,) for names_so_far in maps for name in range(names)]
        return maps

    def carries(self, names, one, two):
        rules = {(names[result], word, tuple(names[part] for part in parts)) for result, word, parts in one[2]}
        return rules <= set(two[2]) and {names[start] for start in one[1]} <= set(two[1])

    def test_g4(self):
        for draw, book, sentences, fair in drawn(575, 120):
            lessons = lessons_of(book, fair)
            self.assertEqual(len(lessons), teaching_number(fair))
            self.assert_same(grammar_of(book, lessons), fair)
            self.assert_same(unused_rules(fair, sentences), ())
            self.assertGreaterEqual(len(sentences), len(lessons))
            for one, two in zip(in_order(sentences)[::-1], lessons[::-1]):
                self.assert_same(is_ahead(one, two), False)
            for tree in draw.some_of(SMALL_TREES, 6):
                counts = [len([other for other in row if not is_ahead(other, tree)]) for row in (sentences, lessons)]
                self.assertGreaterEqual(counts[0], counts[1])

    def test_g5(self):
        for draw, book, sentences, fair in drawn(576, 60, FOUR):
            joins = joins_of(book, sentences)
            j, r = joins_count(book, sentences), len(fair[2])
            self.assertEqual(j, len(joins))
            for tree in draw.some_of(SMALL_TREES, 6) + [tree for tree in SMALL_TREES if takes(fair, tree)][-3:]:
                has_tree = takes(fair, tree)
                chain = chain_paper(book, sentences, tree)
                self.assert_same((is_led(book, sentences, joins, tree), chain is not None), (has_tree, has_tree))
                self.assert_same(join_paper(book, sentences, tree) is not None, has_tree)
                if has_tree:
                    trees = lets_chain(book, sentences, chain)
                    self.assert_same(trees[-1], tree)
                    self.assertLessEqual(max(map(len, trees)), max(map(len, sentences + (tree,))))
                    bound = len(sentences) + 2 * j * (j - 1) + (5 * r + 1) * (j + 1) + len(tree)
                    self.assertLessEqual(len(chain), bound)
                    self.assertEqual(chain_bound(book, sentences, len(tree)), bound)

    def test_g6(self):
        seen = set()
        for draw, book, standing, fair in drawn(577, 150, FEW, 4):
            barred = tuple(draw.some_of(FEW, draw.below(4)))
            fits = not any(takes(fair, tree) for tree in barred)
            self.assert_same(odds_of(book, standing, barred) is None, fits)
            for tree in draw.some_of(FEW, 3) + list(standing[:1]):
                verdict = verdict_of(book, standing, barred, tree)
                seen.add(verdict)
                self.assert_same(verdict == "odds", not fits)
                if fits:
                    more = grammar_of(book, once(standing + (tree,)))
                    self.assert_same(verdict == "in", takes(fair, tree))
                    self.assert_same(verdict == "out", any(takes(more, other) for other in barred))
                paper = verdict_paper(book, standing, barred, tree)
                self.assert_same(lets_verdict(book, standing, barred, tree, paper), verdict)
                self.check_others(book, standing, barred, tree, verdict, draw)
        self.assertEqual(seen, {"in", "out", "open", "odds"})

    def check_others(self, book, standing, barred, tree, verdict, draw):
        """Papers of other trees, by other barred ones, are not accepted for another verdict."""
        for other in draw.some_of(FEW, 3):
            for bars in (barred, (), (other,), barred[:1]):
                paper = verdict_paper(book, standing, bars, other)
                try:
                    self.assert_same(lets_verdict(book, standing, barred, tree, paper), verdict)
                except InvalidPaper:
                    pass

    def test_g7(self):
        for draw, _, sentences, _ in drawn(578, 80):
            levels = max(levels_of(tree) for tree in sentences)
            grammars = [grammar_of((("depth", depth),), sentences) for depth in range(levels + 2)]
            for one, two in zip(grammars, grammars[1:]):
                self.assert_same(lies_within(two, one), True)
            for grammar in grammars[levels:]:
                self.assert_same(lot_size(grammar), len(sentences))
                self.assertTrue(all(takes(grammar, tree) for tree in sentences))
            barred = tuple(draw.some_of(FEW, 4))
            boldest = boldest_of(sentences, barred)
            self.assert_same(boldest is None, any(tree in sentences for tree in barred))
            if boldest is not None:
                self.assertLessEqual(boldest, levels)

    def test_g8(self):
        draw = Draw(579)
        for k in range(150):
            book = SHALLOW_BOOKS[k % len(SHALLOW_BOOKS)]
            grammar = (drawn_driven if k % 2 else drawn_grammar)(draw, 1 + draw.below(3), 2 + draw.below(6))
            lessons, form = lessons_of(book, grammar), closing(book, grammar)
            number = teaching_number(split_of(book, grammar)[0])
            self.assertLessEqual(len(lessons), number)
            self.assertLessEqual(teaching_number(form), number)
            if sum(map(len, lessons)) <= 200:
                self.assert_same(grammar_of(book, lessons), form)
            canon = canon_of(book, grammar)
            self.assert_same(is_plain(canon), True)
            self.assert_same(is_closed(book, grammar), is_fair(book, canon))

    def test_g9(self):
        for draw, book, _, fair in drawn(580, 100):
            lot = [tree for tree in SMALL_TREES if takes(fair, tree)]
            heard = once(tuple(draw.some_of(lessons_of(book, fair) + tuple(draw.some_of(lot, 6)), 60)))
            self.assert_same(grammar_of(book, heard), fair)

    def test_g10_proposals(self):
        draw = Draw(581)
        refused = 0
        for k in range(100):
            book = BOOKS[k % len(BOOKS)]
            learner = Learner(book, k % 3 == 0)
            for _ in range(14):
                word, value = learner.wants()
                right = once(learner.told_trees() + learner.yeses())
                if word == "propose":
                    self.assert_same((is_plain(value), is_fair(book, value)), (True, True))
                    self.assert_same(lies_within(value, grammar_of(book, right)), True)
                answer = draw.one_of(FEW) if word == "propose" else draw.below(3) > 0
                tree = answer if word == "propose" else value
                noes = once(learner.noes() + ((tree,) if answer is False else ()))
                fits = odds_of(book, right if answer is False else once(right + (tree,)), noes) is None
                taken = word == "propose" and takes(value, tree)
                try:
                    learner.told(answer)
                except AtOdds:
                    refused += 1
                    self.assert_same((fits, taken), (False, False))
                except StoodError:
                    self.assertTrue(taken)
                else:
                    self.assert_same((fits, taken), (True, False))
        self.assertGreater(refused, 30)

    def test_g10_counts(self):
        for draw, book, _, fair in drawn(582, 80):
            teacher = Teacher(book, fair, tuple(draw.some_of(FEW, 15)))
            for sparing in (True, False):
                learner = Learner(book, sparing)
                self.assert_same(led_on(learner, teacher), fair)
                told, asked, _, _, _ = learner.numbers()
                self.assertLessEqual(told, teaching_number(fair))
                self.assertLessEqual(asked, question_bound(book, fair))

    def test_g11(self):
        draw = Draw(583)
        for _ in range(60):
            grammar = drawn_driven(draw, 1 + draw.below(3), 3 + draw.below(8))
            lot = [tree for tree in SMALL_TREES if takes(grammar, tree)]
            for number, tree in list(enumerate(lot))[:8]:
                self.assert_same((number_of(grammar, tree), tree_at(grammar, number)), (number, tree))
        for draw, book, _, fair in drawn(584, 80):
            kinds = name_kinds(book, fair)
            tree = draw.one_of([tree for tree in SMALL_TREES if takes(fair, tree)])
            for node in range(len(tree)):
                names = hole_names(fair, tree[:node] + (("?", 0),) + tree[node + len(piece_at(tree, node)):])
                self.assertEqual(len({kinds[name] for name in names}), len(names))

    def test_g11_papers(self):
        """What an accepted paper states is true: the trees of a chain lie in the closure, which exchanges grow."""
        for draw, book, sentences, fair in drawn(585, 40, FOUR):
            for tree in draw.some_of([tree for tree in SMALL_TREES if takes(fair, tree)], 3):
                for other in oracle.chain_trees(book, sentences, chain_paper(book, sentences, tree)):
                    self.assertTrue(takes(fair, other))
            for other in fourths_of(book, sentences):
                self.assertTrue(takes(fair, other))

    def test_g12(self):
        for draw, book, standing, fair in drawn(586, 60):
            barred = tuple(draw.some_of(FEW, 2))
            one = fresh_desk((book, standing, barred))
            two = fresh_desk((book, lessons_of(book, fair), barred[::-1]))
            for tree in draw.some_of(FEW, 4):
                self.assert_same(one.verdict(tree), two.verdict(tree))
                self.assert_same(one.mended(tree), two.mended(tree))
            self.assert_same((one.grammar(), one.lessons()), (plain_of(two.grammar()), two.lessons()))


if __name__ == "__main__":
    unittest.main()
