"""[2], [3], [27], [28]: papers of runs, and the looker over them."""

import copy
import itertools
import random
import unittest

import oracle
from evenpieces.errors import EvenError, NoMost, NoRule, NoStand
from evenpieces.goods import Goods
from evenpieces.papers import paper_fault, paper_of
from evenpieces.runs import run_of, stand_after, sums_of
from evenpieces.webs import Web
from oddments import EqualToAll, NO_LISTS
from oracle import LET_BY, RULES
from samples import NO_MOMENTS, NO_RULES, SMALL_STAND, by_chance, laid, path, small_goods, two_hands, wrong_stands

FORM = ("form",)
UNLIKE = ("unlike",)


def ones(web, hands):
    """Pieces of weight 1 at these hands."""
    return laid(web, **{name: (1, hand) for name, hand in zip("pqrstu", hands)})


def falling():
    """By least one fall the sums are 36, 26, 20, 18, and it rests behind 3 moments."""
    return *ones(two_hands(), "aaaaaa"), "least one fall"


def rising():
    """By least one high the sums are 9, 5, 5, .., and from moment 2 on the stands come again behind 2."""
    return *ones(two_hands(), "aaa"), "least one high"


def circling():
    """By turns high one piece goes to and fro along three hands; the stands come again behind 6 moments."""
    return *ones(path(1, 1, 1), "a"), "turns high"


def resting_but_rising():
    """A run that rests, but on the way makes moves behind which the sum is not less."""
    for seed in itertools.count():
        goods, stand = by_chance(seed, pieces=4)
        for rule in RULES:
            told = run_of(goods, stand, rule, 12)
            if rule not in LET_BY and told[0] == "rest":
                sums = sums_of(goods, stand, rule, told[1])
                if any(one <= other for one, other in zip(sums, sums[1:])) and not rule.startswith("turns"):
                    return goods, stand, rule, sums


class Papers(unittest.TestCase):
    def test_a_run_that_rests_at_once(self):
        goods, stand = ones(path(1, 1, 1), "abc")
        for rule in RULES:
            for most in [0, 1, 3000]:
                self.assertEqual(paper_of(goods, stand, rule, most), ("rest", [3]))
            self.assertEqual(paper_of(Goods(path(1, 2), []), {}, rule, 0), ("rest", [0]))

    def test_a_run_that_rests_later(self):
        for most in [3, 4, 3000]:
            self.assertEqual(paper_of(*falling(), most), ("rest", [36, 26, 20, 18]))
        goods, stand = ones(path(1, 1, 1), "aaaa")
        for most in [4, 5, 3000]:
            self.assertEqual(paper_of(goods, stand, "turns fall", most), ("rest", [16, 10, 10, 8, 6]))

    def test_a_ring(self):
        for most in [4, 5, 3000]:
            self.assertEqual(paper_of(*rising(), most), ("ring", 2, 2))
        for most in [6, 7, 3000]:
            self.assertEqual(paper_of(*circling(), most), ("ring", 0, 6))

    def test_most_too_small(self):
        for start, enough in [(falling(), 3), (rising(), 4), (circling(), 6)]:
            for most in range(enough):
                self.assertIsNone(paper_of(*start, most))
            self.assertIsNotNone(paper_of(*start, enough))

    def test_against_the_second_reckoning(self):
        seen = set()
        for seed in range(80):
            goods, stand = by_chance(seed, pieces=seed % 6)
            for rule in RULES:
                told = oracle.run_of(goods, stand, rule, 12)
                if told[0] == "rest":
                    stands = oracle.stands_of(goods, stand, rule, told[1])
                    told = ("rest", [oracle.sum_of(goods, there) for there in stands])
                with self.subTest(seed=seed, rule=rule):
                    self.assertEqual(paper_of(goods, stand, rule, 12), None if told == ("more",) else told)
                seen.add(told[0])
        self.assertEqual(seen, {"rest", "ring", "more"})

    def test_kinds(self):
        self.assertIs(paper_of(*falling(), 3).__class__, tuple)
        self.assertIs(paper_of(*falling(), 3)[1].__class__, list)
        self.assertIs(paper_of(*rising(), 4).__class__, tuple)


class Form(unittest.TestCase):
    def wrong(self, paper):
        for start in [falling(), rising(), (Goods(path(1), []), {}, "shares one")]:
            with self.subTest(rule=start[2], paper=repr(paper)[:99]):
                self.assertEqual(paper_fault(*start, paper), FORM)

    def test_no_tuple(self):
        for paper in NO_LISTS + [[], ["rest", [18]], ["ring", 2, 2], "rest", "ring", {"rest": [18]}]:
            self.wrong(paper)

    def test_lengths(self):
        for paper in [(), ("rest",), ("ring",), ("rest", [36, 26, 20, 18], 3), ("rest", [0], [0]), ("ring", 2),
                      ("ring", 2, 2, 2), ("ring", [9, 5]), ("rest", 2, 2), ("ring", 0, 1, None), ([18],), (2, 2),
                      ("rest", 0, 1, 2), ("rest", [0], None)]:
            self.wrong(paper)

    def test_first_words(self):
        for word in ["", "Rest", "rest ", " rest", "rests", "more", "REST", "ring", "rest\n", None, True, 0, [], {},
                     ("rest",), b"rest", EqualToAll(), str]:
            self.wrong((word, [36, 26, 20, 18]))
            self.wrong((word, [0]))
        for word in ["", "Ring", "ring ", " ring", "rings", "more", "rest", "ring\n", None, True, 0, [], {}, ("ring",),
                     b"ring", EqualToAll(), str]:
            self.wrong((word, 2, 2))

    def test_sums_that_are_no_list(self):
        for sums in NO_LISTS + [(0,), (36, 26, 20, 18), "36", {0: 0}]:
            self.wrong(("rest", sums))

    def test_no_sums(self):
        self.wrong(("rest", []))

    def test_sums_that_are_no_whole_numbers(self):
        for number in [True, False, "18", "", None, [18], (18,), {}, EqualToAll(), b"1", object(), int]:
            for place in range(4):
                sums = [36, 26, 20, 18]
                sums[place] = number
                self.wrong(("rest", sums))
            self.wrong(("rest", [number]))
            self.wrong(("rest", [0, number]))
        self.wrong(("rest", [False]))

    def test_too_many_sums(self):
        for many in [3002, 3003, 9000]:
            self.wrong(("rest", [0] * many))
        self.wrong(("rest", [36, 26, 20, 18] + [18] * 2998))

    def test_just_as_many_sums_as_may_be(self):
        self.assertEqual(paper_fault(*falling(), ("rest", [36, 26, 20, 18] + [18] * 2997)), ("rests", 3))
        self.assertEqual(paper_fault(*falling(), ("rest", [0] * 3001)), ("sum", 0))
        self.assertEqual(paper_fault(*circling(), ("rest", [1] * 3001)), ("rise", 0))
        goods, stand = ones(path(1, 1, 1), "cccc")
        goods = Goods(goods.web, [(name, 1, [("b", "c")]) for name in goods.names()])
        self.assertEqual(paper_fault(goods, stand, "turns high", ("rest", [16] * 3001)), ("rise", 1))

    def test_rings_that_are_none(self):
        for t, long in [(-1, 2), (-1, 1), (-3, 3003), (0, 0), (2, 0), (2, -1), (0, -2), (3001, -1), (3000, 0),
                        (3000, 1), (2999, 2), (0, 3001), (1, 3000), (10 ** 30, 1), (1, 10 ** 30), (1500, 1501)]:
            self.wrong(("ring", t, long))
        for thing in [True, False, None, "2", "", [2], (), {}, EqualToAll(), b"2", object(), int]:
            self.wrong(("ring", thing, 2))
            self.wrong(("ring", 2, thing))
            self.wrong(("ring", thing, thing))

    def test_rings_at_the_bounds(self):
        for t, long in [(2, 2998), (2998, 2), (1500, 1500)]:
            self.assertIsNone(paper_fault(*rising(), ("ring", t, long)))
        for t, long in [(0, 3000), (2999, 1), (1, 2999)]:
            self.assertEqual(paper_fault(*rising(), ("ring", t, long)), UNLIKE)
            self.assertEqual(paper_fault(*falling(), ("ring", t, long)), ("rests", 3))
        self.assertIsNone(paper_fault(*circling(), ("ring", 0, 3000)))


class FaultsOfRests(unittest.TestCase):
    def each(self, start, rows):
        for sums, fault in rows:
            with self.subTest(rule=start[2], sums=sums):
                self.assertEqual(paper_fault(*start, ("rest", sums)), fault)

    def test_no_fault(self):
        self.each(falling(), [([36, 26, 20, 18], None)])
        self.each((*ones(path(1, 1, 1), "aaaa"), "turns fall"), [([16, 10, 10, 8, 6], None)])
        self.each((Goods(path(1), []), {}, "turns high"), [([0], None)])

    def test_sums(self):
        # Where a number is too great, the rise ahead of it is told first.
        self.each(falling(), [
            ([35, 26, 20, 18], ("sum", 0)), ([37, 26, 20, 18], ("sum", 0)), ([0], ("sum", 0)), ([-36], ("sum", 0)),
            ([36, 25, 20, 18], ("sum", 1)), ([36, 27, 20, 18], ("sum", 1)), ([36, 26, 19, 18], ("sum", 2)),
            ([36, 26, 20, 17], ("sum", 3)), ([36, 26, 20, 19], ("sum", 3)), ([36, 26, 20, -18], ("sum", 3)),
            ([10 ** 5000, 26, 20, 18], ("sum", 0)), ([36, 26, 20, -10 ** 5000], ("sum", 3)),
        ])

    def test_rests_ahead_of_the_last(self):
        self.each(falling(), [
            ([36, 26, 20, 18, 18], ("rests", 3)), ([36, 26, 20, 18, 17], ("rests", 3)),
            ([36, 26, 20, 18, 99], ("rests", 3)), ([36, 26, 20, 18, 18, 18, 18], ("rests", 3)),
        ])
        self.each((*ones(two_hands(), "ab"), "below all high"), [([2, 2], ("rests", 0)), ([2, 1], ("rests", 0))])

    def test_goes_on_at_the_last(self):
        self.each(falling(), [([36], ("goes", 0)), ([36, 26], ("goes", 1)), ([36, 26, 20], ("goes", 2))])

    def test_a_moment_without_moves_is_no_rest_by_turns(self):
        start = (*ones(path(1, 1, 1), "aaaa"), "turns fall")
        self.each(start, [([16, 10], ("goes", 1)), ([16, 10, 10], ("goes", 2)), ([16, 10, 8, 6], ("sum", 2)),
                          ([16, 10, 10, 8, 6, 6], ("rests", 4)), ([16, 10, 11, 8, 6], ("sum", 2))])

    def test_rises(self):
        self.each(falling(), [
            ([36, 36, 20, 18], ("rise", 0)), ([36, 37, 20, 18], ("rise", 0)), ([36, 26, 26, 18], ("rise", 1)),
            ([36, 26, 30, 18], ("rise", 1)), ([36, 26, 20, 20], ("rise", 2)), ([36, 26, 20, 21], ("rise", 2)),
        ])
        self.each(rising(), [([9, 5, 5], ("rise", 1)), ([9, 5, 5, 5, 5], ("rise", 1)), ([9, 5], ("goes", 1)),
                             ([9, 5, 4], ("sum", 2))])

    def test_a_paper_of_its_own_that_rises(self):
        goods, stand, rule, sums = resting_but_rising()
        first = [k for k in range(len(sums) - 1) if sums[k + 1] >= sums[k]][0]
        self.assertEqual(paper_of(goods, stand, rule, 3000), ("rest", sums))
        self.each((goods, stand, rule), [(sums, ("rise", first))])

    def test_two_faults_at_once(self):
        self.each(falling(), [
            # The sum and what it is followed by.
            ([35, 35, 20, 18], ("sum", 0)), ([35], ("sum", 0)), ([36, 25], ("sum", 1)), ([36, 25, 25], ("sum", 1)),
            ([36, 26, 20, 17, 17], ("sum", 3)), ([36, 26, 20, 17, 18], ("sum", 3)),
            # A rest, and a next number that is wrong and not less.
            ([36, 26, 20, 18, 19], ("rests", 3)),
            # A rise, and the next sum wrong, or the next one the last.
            ([36, 40], ("rise", 0)), ([36, 36], ("rise", 0)), ([36, 26, 20, 22], ("rise", 2)),
            # Faults at two places.
            ([36, 25, 20, 18, 18], ("sum", 1)), ([36, 26, 26], ("rise", 1)), ([36, 26, 19], ("sum", 2)),
        ])

    def test_the_paper_is_true_of_the_moves_and_not_of_the_sums_alone(self):
        # The piece of 2 goes first; numbers of another run, that also fall, are no paper of this one.
        goods, stand = laid(two_hands(), p=(1, "a"), q=(2, "a"), r=(1, "a"))
        start = (goods, stand, "least one fall")
        self.each(start, [([16, 8], None), ([16, 10, 8], ("sum", 1))])


class FaultsOfRings(unittest.TestCase):
    def each(self, start, rows):
        for t, long, fault in rows:
            with self.subTest(rule=start[2], t=t, long=long):
                self.assertEqual(paper_fault(*start, ("ring", t, long)), fault)

    def test_no_fault(self):
        self.each(rising(), [(2, 2, None)])
        self.each(circling(), [(0, 6, None)])

    def test_later_and_longer_rings(self):
        self.each(rising(), [(3, 2, None), (4, 2, None), (99, 2, None), (2, 4, None), (2, 6, None), (5, 20, None)])
        self.each(circling(), [(1, 6, None), (5, 6, None), (0, 12, None), (7, 18, None)])

    def test_rests(self):
        self.each(falling(), [(0, 4, ("rests", 3)), (0, 3, ("rests", 3)), (3, 1, ("rests", 3)), (2, 1, ("rests", 3)),
                              (5, 1, ("rests", 3)), (2, 9, ("rests", 3)), (4, 2, ("rests", 3))])
        self.each((Goods(path(1), []), {}, "shares all"), [(0, 1, ("rests", 0)), (7, 7, ("rests", 0))])

    def test_a_rest_behind_the_last_moment_is_not_looked_at(self):
        self.each(falling(), [(0, 1, UNLIKE), (0, 2, UNLIKE), (1, 1, UNLIKE)])

    def test_unlike_stands(self):
        self.each(rising(), [(0, 1, UNLIKE), (0, 2, UNLIKE), (1, 2, UNLIKE), (2, 1, UNLIKE), (2, 3, UNLIKE),
                             (1, 1, UNLIKE), (0, 4, UNLIKE), (3, 1, UNLIKE), (1, 4, UNLIKE)])

    def test_like_stands_at_unlike_rows(self):
        # Behind 2 and 3 moments the piece is at c, behind 1 and 4 at b, behind 0, 5 and 6 at a.
        goods, stand, rule = circling()
        self.assertEqual("".join(stand_after(goods, stand, rule, k)["p"] for k in range(7)), "abccbaa")
        self.each(circling(), [(2, 1, UNLIKE), (1, 3, UNLIKE), (0, 5, UNLIKE), (5, 1, UNLIKE), (3, 5, UNLIKE),
                               (2, 7, UNLIKE), (8, 1, UNLIKE)])

    def test_like_rows_and_unlike_stands(self):
        self.each(circling(), [(0, 2, UNLIKE), (0, 4, UNLIKE), (1, 4, UNLIKE), (3, 2, UNLIKE)])


class PapersOfItsOwn(unittest.TestCase):
    def test_no_fault_by_a_rule_that_is_let_by(self):
        for seed in range(80):
            goods, stand = by_chance(seed)
            for rule in LET_BY:
                with self.subTest(seed=seed, rule=rule):
                    self.assertIsNone(paper_fault(goods, stand, rule, paper_of(goods, stand, rule, 3000)))

    def test_no_fault_but_a_rise_by_the_others(self):
        seen = set()
        for seed in range(80):
            goods, stand = by_chance(seed, pieces=seed % 8)
            for rule in RULES:
                paper = paper_of(goods, stand, rule, 200)
                if paper is not None:
                    fault = paper_fault(goods, stand, rule, paper)
                    with self.subTest(seed=seed, rule=rule):
                        if rule in LET_BY or paper[0] == "ring":
                            self.assertIsNone(fault)
                        elif fault is not None:
                            self.assertEqual(fault[0], "rise")
                    seen.add((paper[0], fault is None))
        self.assertEqual(seen, {("rest", True), ("rest", False), ("ring", True)})

    def test_changed_papers_against_the_second_reckoning(self):
        chance = random.Random(8)
        seen = set()
        for seed in range(120):
            goods, stand = by_chance(seed, pieces=1 + seed % 6)
            for rule in RULES:
                moments = chance.randint(0, 6)
                told = run_of(goods, stand, rule, 8)
                if told[0] == "rest" and chance.random() < 0.6:
                    moments = max(0, told[1] + chance.choice([0, 0, 0, -1, 1]))
                sums = sums_of(goods, stand, rule, moments)
                if chance.random() < 0.5:
                    sums[chance.randrange(len(sums))] += chance.choice([-1, 1, -7, 7])
                t, long = chance.randint(0, 5), chance.randint(1, 6)
                if told[0] == "ring" and chance.random() < 0.6:
                    t, long = told[1] + chance.choice([0, 0, 1, -1]), told[2] * chance.choice([1, 1, 2])
                    t = max(t, 0)
                with self.subTest(seed=seed, rule=rule, sums=sums, t=t, long=long):
                    fault = paper_fault(goods, stand, rule, ("rest", sums))
                    self.assertEqual(fault, oracle.fault_of_rest(goods, stand, rule, sums))
                    ring_fault = paper_fault(goods, stand, rule, ("ring", t, long))
                    self.assertEqual(ring_fault, oracle.fault_of_ring(goods, stand, rule, t, long))
                seen.update([("rest", fault and fault[0]), ("ring", ring_fault and ring_fault[0])])
        self.assertEqual(seen, {("rest", fault) for fault in [None, "sum", "rests", "goes", "rise"]}
                         | {("ring", fault) for fault in [None, "rests", "unlike"]})

    def test_a_paper_without_fault_is_true_of_the_run(self):
        chance = random.Random(9)
        for seed in range(60):
            goods, stand = by_chance(seed, pieces=1 + seed % 4)
            rule = chance.choice(RULES)
            for t, long in itertools.product(range(5), range(1, 5)):
                if paper_fault(goods, stand, rule, ("ring", t, long)) is None:
                    self.assertEqual(stand_after(goods, stand, rule, t), stand_after(goods, stand, rule, t + 5 * long))
                    self.assertNotEqual(run_of(goods, stand, rule, 300)[0], "rest")


class Refusals(unittest.TestCase):
    def refused(self, refusal, function, *given):
        with self.subTest(function=function, given=repr(given)[:99]), self.assertRaises(refusal) as caught:
            function(small_goods(), *given)
        self.assertIsInstance(caught.exception, EvenError)
        self.assertIs(caught.exception.__class__, refusal)

    def test_no_rule(self):
        for rule in NO_RULES:
            self.refused(NoRule, paper_of, SMALL_STAND, rule, 1)
            self.refused(NoRule, paper_fault, SMALL_STAND, rule, ("rest", [0]))

    def test_no_stand(self):
        for stand in wrong_stands():
            for rule in ["below all fall", "turns calm"]:
                self.refused(NoStand, paper_of, stand, rule, 1)
                self.refused(NoStand, paper_fault, stand, rule, ("ring", 0, 1))

    def test_no_most(self):
        for most in NO_MOMENTS:
            for rule in RULES:
                self.refused(NoMost, paper_of, SMALL_STAND, rule, most)

    def test_their_order(self):
        papers = [None, (), ("rest", []), ("rest", [0]), ("ring", 0, 1), ("ring", -1, 1), "rest", 0]
        for rule in [None, "turns", "shares  one", []]:
            for stand in [None, {}, [], {"a": "b", "q": "x"}, SMALL_STAND]:
                for most in [-1, None, True, "1", 1]:
                    self.refused(NoRule, paper_of, stand, rule, most)
                for paper in papers:
                    self.refused(NoRule, paper_fault, stand, rule, paper)
        for stand in [None, {}, [], {"a": "b", "q": "x"}]:
            for rule in RULES:
                for most in [-1, None, True, "1"]:
                    self.refused(NoStand, paper_of, stand, rule, most)
                for paper in papers:
                    self.refused(NoStand, paper_fault, stand, rule, paper)


class WhatIsToldAndWhatIsHandedIn(unittest.TestCase):
    def test_what_is_told_is_the_askers_own(self):
        paper = paper_of(*falling(), 3)
        paper[1].append(0)
        self.assertEqual(paper_of(*falling(), 3), ("rest", [36, 26, 20, 18]))
        start = rising()
        self.assertIsNot(paper_of(*start, 4), paper_of(*start, 4))
        for paper in [("ring", 0, 1), ("rest", []), ("rest", [9]), ("rest", [8])]:
            self.assertEqual(paper_fault(*start, paper), paper_fault(*start, paper))
            self.assertIsNot(paper_fault(*start, paper), paper_fault(*start, paper))

    def test_what_is_handed_in_stays(self):
        goods, stand, rule = falling()
        kept = list(stand.items())
        for paper in [("rest", [36, 26, 20, 18]), ("rest", [36, 27, True]), ("ring", 1, 2), ["ring"], ("rest", [0, 1])]:
            written = copy.deepcopy(paper)
            paper_fault(goods, stand, rule, paper)
            self.assertEqual(paper, written)
        paper_of(goods, stand, rule, 9)
        self.assertEqual(list(stand.items()), kept)

    def test_webs_without_ties(self):
        goods, stand = laid(Web([("a", 1), ("b", 1)], []), p=(9, "a"))
        for rule in RULES:
            self.assertEqual(paper_of(goods, stand, rule, 0), ("rest", [81]))
            self.assertIsNone(paper_fault(goods, stand, rule, ("rest", [81])))
            self.assertEqual(paper_fault(goods, stand, rule, ("ring", 0, 1)), ("rests", 0))


if __name__ == "__main__":
    unittest.main()
