"""[2], [3], [21] to [23]: runs."""

import copy
import unittest

import oracle
from evenpieces.errors import EvenError, NoMoment, NoMost, NoRule, NoStand
from evenpieces.goods import Goods
from evenpieces.rules import at_rest
from evenpieces.runs import run_of, stand_after, sums_of
from evenpieces.stands import sum_of
from evenpieces.webs import Web
from oracle import LET_BY, RULES
from samples import NO_MOMENTS, NO_RULES, SMALL_STAND, by_chance, laid, path, small_goods, two_hands, wrong_stands


def ones(web, hands):
    """Pieces p, q, .. of weight 1 at these hands."""
    return laid(web, **{name: (1, hand) for name, hand in zip("pqrstu", hands)})


def hands_of(stand):
    return "".join(stand[piece] for piece in sorted(stand))


# By hand: web, hands of the pieces of weight 1, rule, the hands behind 0, 1, .. moments, and the sums.
COURSES = [
    # d is 3, then 1 each time, and the hand that has more gives the first piece by name.
    (two_hands(), "aaa", "least one high", ["aaa", "baa", "bba", "aba", "bba", "aba"], [9, 5, 5, 5, 5, 5]),
    (two_hands(), "aaaa", "least one fall", ["aaaa", "baaa", "bbaa", "bbaa"], [16, 10, 8, 8]),
    # By turns the rows are a-b and b-c; at moment 1 nothing is made, though it is no rest.
    (path(1, 1, 1), "aaaa", "turns fall", ["aaaa", "baaa", "baaa", "bbaa", "cbaa", "cbaa"], [16, 10, 10, 8, 6, 6]),
    (path(1, 1, 1), "a", "turns high", ["a", "b", "c", "c", "b", "a", "a", "b", "c"], [1] * 9),
    # Strengths 1 and 2: the sum is 2 * load * load of a and load * load of b.
    (two_hands(1, 2), "aaa", "below all calm", ["aaa", "baa", "bba", "bba"], [18, 9, 6, 6]),
    # n is 2, so 4 // 2 // 2 piece goes, behind that nothing (2 // 4).
    (two_hands(), "aaaa", "shares all", ["aaaa", "baaa", "baaa"], [16, 10, 10]),
]


class StandsBehindMoments(unittest.TestCase):
    def test_by_hand(self):
        for web, hands, rule, expected, sums in COURSES:
            goods, stand = ones(web, hands)
            for moments, there in enumerate(expected):
                with self.subTest(rule=rule, moments=moments):
                    self.assertEqual(hands_of(stand_after(goods, stand, rule, moments)), there)

    def test_no_moments(self):
        for rule in RULES:
            self.assertEqual(stand_after(small_goods(), SMALL_STAND, rule, 0), SMALL_STAND)

    def test_no_pieces(self):
        for rule in RULES:
            self.assertEqual(stand_after(Goods(path(1, 2), []), {}, rule, 5), {})

    def test_three_thousand_moments(self):
        goods, stand = ones(two_hands(), "aaa")
        self.assertEqual(hands_of(stand_after(goods, stand, "least one high", 3000)), "bba")
        self.assertEqual(hands_of(stand_after(goods, stand, "least one high", 2999)), "aba")
        goods, stand = ones(path(1, 1, 1), "a")
        self.assertEqual(hands_of(stand_after(goods, stand, "turns high", 2999)), "a")
        self.assertEqual(hands_of(stand_after(goods, stand, "turns high", 2998)), "b")
        self.assertEqual(hands_of(stand_after(goods, stand, "turns high", 2996)), "c")

    def test_without_ties_all_stays(self):
        goods, stand = laid(Web([("a", 1), ("b", 1)], []), p=(9, "a"))
        for rule in RULES:
            self.assertEqual(stand_after(goods, stand, rule, 3), stand)


class Sums(unittest.TestCase):
    def test_by_hand(self):
        for web, hands, rule, expected, sums in COURSES:
            goods, stand = ones(web, hands)
            for moments in range(len(sums)):
                with self.subTest(rule=rule, moments=moments):
                    self.assertEqual(sums_of(goods, stand, rule, moments), sums[:moments + 1])

    def test_one_more_than_moments(self):
        for rule in RULES:
            for moments in [0, 1, 2, 17]:
                self.assertEqual(len(sums_of(small_goods(), SMALL_STAND, rule, moments)), moments + 1)

    def test_three_thousand_moments(self):
        goods, stand = ones(two_hands(), "aaa")
        self.assertEqual(sums_of(goods, stand, "least one high", 3000), [9] + [5] * 3000)

    def test_no_moments(self):
        self.assertEqual(sums_of(small_goods(), SMALL_STAND, "turns high", 0), [25 * 3 + 16 * 2])


class RestsAndRings(unittest.TestCase):
    def test_rests_at_once(self):
        goods, stand = ones(path(1, 1, 1), "bac")
        for rule in RULES:
            for most in [0, 1, 3000]:
                with self.subTest(rule=rule, most=most):
                    self.assertEqual(run_of(goods, stand, rule, most), ("rest", 0, stand))
            self.assertEqual(run_of(Goods(path(1, 2), []), {}, rule, 0), ("rest", 0, {}))

    def test_rests_without_ties(self):
        goods, stand = laid(Web([("a", 1), ("b", 1)], []), p=(9, "a"))
        for rule in RULES:
            self.assertEqual(run_of(goods, stand, rule, 0), ("rest", 0, stand))

    def test_rests_later(self):
        for web, hands, rule, t, there in [
            (two_hands(), "aaaa", "least one fall", 2, "bbaa"),
            (path(1, 1, 1), "aaaa", "turns fall", 4, "cbaa"),
            (two_hands(1, 2), "aaa", "below all calm", 2, "bba"),
            (two_hands(), "aaaa", "shares all", 1, "baaa"),
        ]:
            goods, stand = ones(web, hands)
            with self.subTest(rule=rule):
                end = dict(zip(sorted(stand), there))
                for most in [t, t + 1, 3000, 10 ** 12]:
                    self.assertEqual(run_of(goods, stand, rule, most), ("rest", t, end))
                for most in range(t):
                    self.assertEqual(run_of(goods, stand, rule, most), ("more",))

    def test_rings(self):
        for web, hands, rule, t, long in [
            (two_hands(), "aaa", "least one high", 2, 2),
            (two_hands(), "a", "least one high", 0, 2),
            (two_hands(), "b", "below all high", 0, 2),
            (two_hands(), "b", "turns high", 0, 2),
            (path(1, 1, 1), "a", "turns high", 0, 6),
        ]:
            goods, stand = ones(web, hands)
            with self.subTest(rule=rule, hands=hands):
                for most in [t + long, t + long + 1, 3000, 10 ** 12]:
                    self.assertEqual(run_of(goods, stand, rule, most), ("ring", t, long))
                for most in range(t + long):
                    self.assertEqual(run_of(goods, stand, rule, most), ("more",))

    def test_the_same_stand_at_another_row_is_no_ring(self):
        goods, stand = ones(path(1, 1, 1), "a")
        self.assertEqual(stand_after(goods, stand, "turns high", 2), stand_after(goods, stand, "turns high", 3))
        self.assertEqual(stand_after(goods, stand, "turns high", 1), stand_after(goods, stand, "turns high", 4))
        self.assertEqual(run_of(goods, stand, "turns high", 5), ("more",))

    def test_a_moment_without_moves_is_no_rest_by_turns(self):
        # At moment 0 the row is a-b, along which nothing goes.
        goods, stand = ones(path(1, 1, 1), "cccc")
        self.assertEqual(stand_after(goods, stand, "turns fall", 1), stand)
        self.assertEqual(run_of(goods, stand, "turns fall", 0), ("more",))
        self.assertEqual(run_of(goods, stand, "turns fall", 100)[0], "rest")
        self.assertGreater(run_of(goods, stand, "turns fall", 100)[1], 1)

    def test_a_ring_behind_some_moments_by_turns(self):
        # First the surplus goes over, then one piece goes to and fro: 3 and 0, 2 and 1, 1 and 2, 2 and 1.
        goods, stand = ones(two_hands(), "aaa")
        self.assertEqual(run_of(goods, stand, "turns high", 4), ("ring", 2, 2))
        self.assertEqual(run_of(goods, stand, "turns high", 3), ("more",))

    def test_kinds(self):
        goods, stand = ones(two_hands(), "aaa")
        for rule, most in [("least one high", 3), ("least one high", 4), ("least one fall", 9)]:
            self.assertIs(run_of(goods, stand, rule, most).__class__, tuple)


class Refusals(unittest.TestCase):
    def refused(self, refusal, function, *given):
        with self.subTest(function=function, given=given), self.assertRaises(refusal):
            function(small_goods(), *given)

    def test_no_rule(self):
        for rule in NO_RULES:
            for function in [stand_after, run_of, sums_of]:
                self.refused(NoRule, function, SMALL_STAND, rule, 1)

    def test_no_stand(self):
        for stand in wrong_stands():
            for function in [stand_after, run_of, sums_of]:
                self.refused(NoStand, function, stand, "below all fall", 1)
                self.refused(NoStand, function, stand, "turns calm", 0)

    def test_no_moment_and_no_most(self):
        for number in NO_MOMENTS:
            for rule in RULES:
                self.refused(NoMoment, stand_after, SMALL_STAND, rule, number)
                self.refused(NoMoment, sums_of, SMALL_STAND, rule, number)
                self.refused(NoMost, run_of, SMALL_STAND, rule, number)

    def test_no_most_where_it_rests_at_once(self):
        for number in NO_MOMENTS:
            with self.assertRaises(NoMost):
                run_of(Goods(path(1), []), {}, "turns high", number)

    def test_their_order(self):
        for function, last in [(stand_after, NoMoment), (sums_of, NoMoment), (run_of, NoMost)]:
            for number in [-1, None, True, "1"]:
                for stand in [None, {}, [], {"a": "b", "q": "x"}]:
                    for rule in [None, "turns", "shares  one", []]:
                        self.refused(NoRule, function, stand, rule, number)
                        self.refused(NoRule, function, stand, rule, 1)
                        self.refused(NoRule, function, SMALL_STAND, rule, number)
                    self.refused(NoStand, function, stand, "shares one", number)
                self.refused(last, function, SMALL_STAND, "shares one", number)
                self.refused(EvenError, function, SMALL_STAND, "shares one", number)


class WhatIsToldAndWhatIsHandedIn(unittest.TestCase):
    def test_what_is_told_is_the_askers_own(self):
        goods, stand = ones(two_hands(), "aaaa")
        for rule in RULES:
            for moments in [0, 1, 5]:
                first, second = [stand_after(goods, stand, rule, moments) for time in range(2)]
                self.assertIsNot(first, second)
                self.assertIsNot(first, stand)
                first.clear()
                self.assertEqual(stand_after(goods, stand, rule, moments), second)
            sums = sums_of(goods, stand, rule, 2)
            kept = list(sums)
            sums.clear()
            self.assertEqual(sums_of(goods, stand, rule, 2), kept)

    def test_the_stand_of_a_rest_is_a_new_one(self):
        goods, stand = ones(two_hands(), "ab")
        for rule in RULES:
            told = run_of(goods, stand, rule, 3)
            self.assertIsNot(told[2], stand)
            told[2]["p"] = "x"
            self.assertEqual(stand, {"p": "a", "q": "b"})
            self.assertEqual(run_of(goods, stand, rule, 3), ("rest", 0, stand))

    def test_each_answer_is_a_new_one(self):
        goods, stand = ones(two_hands(), "a")
        for rule, most in [("least one high", 1), ("least one high", 2), ("least one calm", 1)]:
            self.assertIsNot(run_of(goods, stand, rule, most), run_of(goods, stand, rule, most))

    def test_what_is_handed_in_stays(self):
        goods, stand = laid(path(1, 1, 1), r=(9, "a"), q=(8, "a", [("b", "a")]), p=(1, "b"))
        kept = copy.deepcopy(stand)
        for rule in RULES:
            stand_after(goods, stand, rule, 9)
            run_of(goods, stand, rule, 9)
            sums_of(goods, stand, rule, 9)
        self.assertEqual(list(stand.items()), list(kept.items()))

    def test_the_next_answer_goes_by_what_the_stand_says_then(self):
        goods, stand = ones(two_hands(), "aaaa")
        self.assertEqual(run_of(goods, stand, "least one fall", 9)[:2], ("rest", 2))
        stand["p"] = "b"
        self.assertEqual(run_of(goods, stand, "least one fall", 9)[:2], ("rest", 1))
        stand["p"] = "c"
        with self.assertRaises(NoStand):
            run_of(goods, stand, "least one fall", 9)


class AgainstTheSecondReckoning(unittest.TestCase):
    def test_stands_and_sums(self):
        for seed in range(60):
            goods, stand = by_chance(seed)
            for rule in RULES:
                with self.subTest(seed=seed, rule=rule):
                    stands = oracle.stands_of(goods, stand, rule, 6)
                    self.assertEqual([stand_after(goods, stand, rule, moments) for moments in range(7)], stands)
                    sums = [oracle.sum_of(goods, there) for there in stands]
                    self.assertEqual(sums_of(goods, stand, rule, 6), sums)

    def test_runs(self):
        seen = set()
        for seed in range(120):
            goods, stand = by_chance(seed, pieces=seed % 7)
            for rule in RULES:
                with self.subTest(seed=seed, rule=rule):
                    told = run_of(goods, stand, rule, 16)
                    self.assertEqual(told, oracle.run_of(goods, stand, rule, 16))
                    seen.add((told[0], rule.startswith("turns"), len(told) > 1 and told[1] > 0))
        for is_turns in [False, True]:
            for end in [("rest", False), ("rest", True), ("ring", True), ("more", False)]:
                self.assertIn((end[0], is_turns, end[1]), seen)


class ThePromise(unittest.TestCase):
    def test_the_sum_falls_where_the_rule_is_let_by(self):
        for seed in range(100):
            goods, stand = by_chance(seed)
            for rule in LET_BY:
                sums = sums_of(goods, stand, rule, 8)
                stands = [stand_after(goods, stand, rule, moments) for moments in range(9)]
                self.assertEqual(sums, [sum_of(goods, there) for there in stands])
                for moment in range(8):
                    with self.subTest(seed=seed, rule=rule, moment=moment):
                        if stands[moment] == stands[moment + 1]:
                            self.assertEqual(sums[moment + 1], sums[moment])
                        else:
                            self.assertLess(sums[moment + 1], sums[moment])

    def test_a_told_rest_is_one_and_a_told_ring_is_one(self):
        for seed in range(2000, 2020):
            goods, stand = by_chance(seed, hands=8, pieces=30)
            for rule in RULES:
                told = run_of(goods, stand, rule, 400)
                with self.subTest(seed=seed, rule=rule):
                    if rule in LET_BY:
                        self.assertNotEqual(told[0], "ring")
                    if told[0] == "rest":
                        self.assertEqual(stand_after(goods, stand, rule, told[1]), told[2])
                        self.assertEqual(stand_after(goods, stand, rule, told[1] + 9), told[2])
                        self.assertTrue(at_rest(goods, told[2], rule))
                        if told[1] > 0:
                            ahead = stand_after(goods, stand, rule, told[1] - 1)
                            self.assertFalse(at_rest(goods, ahead, rule))
                    if told[0] == "ring":
                        first, again = [stand_after(goods, stand, rule, k) for k in [told[1], told[1] + told[2]]]
                        self.assertEqual(first, again)


if __name__ == "__main__":
    unittest.main()
