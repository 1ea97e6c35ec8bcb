"""[2], [3], [24] to [26]: by when a run rests, and how uneven it may be there."""

import copy
import itertools
import random
import unittest
from fractions import Fraction

import oracle
from evenpieces.bounds import gap_of, rest_by, worst_of
from evenpieces.errors import EvenError, NoRule, NoStand, NoWeight, NotLetBy
from evenpieces.goods import Goods
from evenpieces.rules import at_rest
from evenpieces.runs import run_of, stand_after
from evenpieces.stands import steepest
from evenpieces.webs import Web
from oddments import NO_WEIGHTS
from oracle import LET_BY, RULES
from samples import (
    NO_RULES, SMALL_STAND, by_chance, laid, path, piece_names, small_goods, star, two_hands, wrong_stands,
)

NOT_LET_BY = [rule for rule in RULES if rule not in LET_BY]
FALL = [rule for rule in LET_BY if rule.endswith("fall")]
CALM = [rule for rule in LET_BY if rule.endswith("calm")]
SHARES = ["shares one", "shares all"]
SOME_WEIGHTS = [1, 2, 3, 4, 5, 6, 7, 9, 10, 11, 16, 99, 100, 101, 4096, 99999, 10 ** 9 - 1, 10 ** 9]


class WhenItRests(unittest.TestCase):
    def each(self, goods, stand, expected, turns=None):
        """The number by all rules that are let by; another one by turns."""
        for rule in LET_BY:
            with self.subTest(rule=rule):
                number = turns if turns is not None and rule.startswith("turns") else expected
                self.assertEqual(rest_by(goods, stand, rule), number)
                self.assertIs(rest_by(goods, stand, rule).__class__, int)

    def test_a_whole_number(self):
        # 6 * 6 is 36; M 1, all 6, S 2: 36 / 2 is 18.
        self.each(*laid(two_hands(), p=(2, "a"), q=(4, "a")), 18)
        # M 6, all 10, S 5: 600 / 5 is 120; 4 * 4 * 3 + 6 * 6 * 2 is 120, too, and 10 * 10 * 3 is 300.
        self.each(*laid(two_hands(2, 3), p=(4, "a"), q=(6, "b")), 0)
        self.each(*laid(two_hands(2, 3), p=(4, "a"), q=(6, "a")), 180)

    def test_no_whole_number(self):
        # M 1, all 5, S 2: 25 / 2 is above 12, so 13.
        self.each(*laid(two_hands(), p=(2, "a"), q=(3, "a")), 12)
        # M 6, all 7, S 5: 294 / 5 is 58.8, so 59; 49 * 3 is 147.
        self.each(*laid(two_hands(2, 3), p=(7, "a")), 88)
        # M 6, all 2, S 5: 24 / 5 is 4.8, so 5; 4 * 3 is 12. And M 6, all 3: 54 / 5 is 10.8, so 11; 9 * 2 is 18.
        self.each(*laid(two_hands(2, 3), p=(2, "a")), 7)
        self.each(*laid(two_hands(2, 3), p=(3, "b")), 7)
        # M 6, all 6, S 11: 216 / 11 is 19.6.., so 20; 36 * 1 is 36. Along a path of three there are two rows.
        self.each(*laid(path(6, 3, 2), p=(6, "a")), 16, 32)
        # M 1,000, all 1, S 2,000: a half, so 1; and so is the sum.
        self.each(*laid(two_hands(1000, 1000), p=(1, "a")), 0)

    def test_just_above_a_whole_number(self):
        # M 1, all 4, S 3: 16 / 3 is 5 and a third, so 6, not 5.
        self.each(*laid(path(1, 1, 1), p=(4, "a")), 10, 20)
        # M 1, all 5, S 3: 25 / 3 is 8 and a third, so 9.
        self.each(*laid(path(1, 1, 1), p=(5, "a")), 16, 32)

    def test_rows_of_turns(self):
        # In a star of four each tie is a row of its own: M 1, all 4, S 4: 16 / 4 is 4.
        goods, stand = laid(star(1, 1, 1, 1), p=(4, "a"))
        self.assertEqual(len(goods.web.turns()), 3)
        self.each(goods, stand, 12, 36)
        goods, stand = laid(path(1, 1, 1, 1), p=(4, "a"))
        self.assertEqual(len(goods.web.turns()), 2)
        self.each(goods, stand, 12, 24)

    def test_one_row(self):
        web = Web([(name, 1) for name in "abcd"], [("a", "b"), ("c", "d")])
        self.assertEqual(len(web.turns()), 1)
        self.each(*laid(web, p=(4, "a")), 12)

    def test_without_ties(self):
        self.each(*laid(Web([("a", 1), ("b", 1)], []), p=(4, "a")), 8)
        self.each(*laid(Web([("a", 7)], []), p=(4, "a")), 0)

    def test_no_pieces(self):
        for web in [path(1), path(1, 1), path(3, 5, 7), star(2, 2, 2, 2, 2)]:
            self.each(Goods(web, []), {}, 0)

    def test_pieces_that_are_not_free_count_too(self):
        self.each(*laid(two_hands(), p=(2, "a", []), q=(4, "a", [("b", "a")])), 18)

    def test_great_numbers(self):
        web = path(*range(993, 1001))
        goods = Goods(web, [(name, 10 ** 9, None) for name in piece_names(30)])
        stand = {name: "a" for name in goods.names()}
        for rule in LET_BY:
            self.assertEqual(rest_by(goods, stand, rule), oracle.rest_by(goods, stand, rule))

    def test_against_the_second_reckoning(self):
        for seed in range(150):
            goods, stand = by_chance(seed)
            for rule in LET_BY:
                with self.subTest(seed=seed, rule=rule):
                    self.assertEqual(rest_by(goods, stand, rule), oracle.rest_by(goods, stand, rule))

    def test_the_run_rests_by_then(self):
        met = 0
        for seed in range(150):
            goods, stand = by_chance(seed, pieces=seed % 9)
            for rule in LET_BY:
                with self.subTest(seed=seed, rule=rule):
                    number = rest_by(goods, stand, rule)
                    self.assertGreaterEqual(number, 0)
                    told = run_of(goods, stand, rule, min(number, 3000))
                    self.assertEqual(told[0], "rest")
                    met += number <= 3000 and told[1] > 0
        self.assertGreater(met, 200)


class Gaps(unittest.TestCase):
    def each(self, rules, web, weight, expected):
        for rule in rules:
            with self.subTest(rule=rule, weight=weight):
                self.assertEqual(gap_of(web, weight, rule), expected)

    def test_by_fall(self):
        for web, weight, expected in [
            (two_hands(), 1, (1, 1)), (two_hands(), 7, (7, 1)), (two_hands(2, 3), 1, (5, 12)),
            (two_hands(2, 3), 6, (5, 2)), (two_hands(1, 2), 1, (3, 4)), (two_hands(5, 5), 3, (3, 5)),
            (two_hands(1000, 1000), 1, (1, 1000)), (two_hands(), 10 ** 9, (10 ** 9, 1)),
            (two_hands(1000, 999), 10 ** 9, (1999 * 10 ** 6, 1998)),
        ]:
            reduced = Fraction(*expected)
            self.each(FALL, web, weight, (reduced.numerator, reduced.denominator))

    def test_by_calm(self):
        for web, weight, expected in [
            (two_hands(), 1, (1, 1)), (two_hands(), 7, (13, 1)), (two_hands(2, 3), 1, (2, 3)),
            (two_hands(2, 3), 5, (4, 1)), (two_hands(1, 2), 1, (1, 1)), (two_hands(1, 2), 2, (5, 2)),
            (two_hands(5, 5), 3, (29, 25)), (two_hands(), 10 ** 9, (1999999999, 1)),
            (two_hands(1000, 1000), 10 ** 9, (1999999999999, 1000000)),
        ]:
            self.each(CALM, web, weight, expected)

    def test_by_shares(self):
        # n is 2 with two hands, 3 with a path of three, 4 with a star of four.
        for web, weight, expected in [
            (two_hands(), 1, (3, 1)), (two_hands(), 7, (27, 1)), (two_hands(2, 3), 1, (3, 2)),
            (two_hands(1, 2), 2, (11, 2)), (path(1, 1, 1), 2, (11, 1)), (star(1, 1, 1, 1), 2, (15, 1)),
            (path(2, 2, 2, 2), 1, (11, 4)), (two_hands(), 10 ** 9, (3999999999, 1)),
        ]:
            self.each(SHARES, web, weight, expected)

    def test_the_greatest_over_all_ties(self):
        # Ties of the strengths 1, 2 and of 2, 5, and of 5, 1.
        self.each(FALL, path(1, 2, 5), 4, (3, 1))
        self.each(FALL, path(5, 2, 1), 4, (3, 1))
        self.each(CALM, path(5, 2, 1), 4, (11, 2))
        self.each(SHARES, path(5, 2, 1), 4, (35, 2))
        ring = Web([("a", 1), ("b", 2), ("c", 5)], [("a", "b"), ("b", "c"), ("c", "a")])
        self.each(FALL, ring, 4, (3, 1))
        self.each(CALM, ring, 4, (11, 2))
        middle = path(9, 2, 3, 7)
        self.each(FALL, middle, 12, (5, 1))
        self.each(CALM, middle, 12, (59, 6))

    def test_the_strongest_hands_do_not_count_where_they_are_not_tied(self):
        web = Web([("a", 1), ("b", 10), ("c", 10), ("d", 1)], [("b", "c")])
        self.each(FALL, web, 5, (1, 2))
        self.each(CALM, web, 5, (99, 100))
        self.each(SHARES, web, 5, (199, 100))

    def test_gaps_that_are_nearly_like(self):
        web = Web([("a", 999), ("b", 1000), ("c", 998), ("d", 1000)], [("a", "b"), ("c", "d")])
        for weight in [1, 2, 10 ** 9]:
            for rule in LET_BY:
                self.assertEqual(gap_of(web, weight, rule), oracle.gap_of(web, weight, rule))

    def test_without_ties(self):
        for web in [Web([("a", 3)], []), Web([("a", 3), ("b", 4)], [])]:
            for weight in [1, 10 ** 9]:
                self.each(LET_BY, web, weight, (0, 1))

    def test_kinds(self):
        for rule in LET_BY:
            for web in [path(1), two_hands(2, 4)]:
                told = gap_of(web, 3, rule)
                self.assertIs(told.__class__, tuple)
                self.assertEqual([part.__class__ for part in told], [int, int])

    def test_against_the_second_reckoning(self):
        chance = random.Random(4)
        for seed in range(100):
            web = by_chance(seed)[0].web
            for rule in LET_BY:
                weight = chance.choice([1, 2, chance.randint(1, 50), chance.randint(1, 10 ** 9)])
                with self.subTest(seed=seed, rule=rule, weight=weight):
                    self.assertEqual(gap_of(web, weight, rule), oracle.gap_of(web, weight, rule))

    def test_at_rest_it_is_no_steeper(self):
        met = 0
        for seed in range(200):
            goods, stand = by_chance(seed, pieces=1 + seed % 12)
            free = Goods(goods.web, [(name, goods.weight(name), None) for name in goods.names()])
            heaviest = max(free.weight(name) for name in free.names())
            for rule in LET_BY:
                told = run_of(free, stand, rule, 3000)
                with self.subTest(seed=seed, rule=rule):
                    self.assertEqual(told[0], "rest")
                    steep, gap = Fraction(*steepest(free, told[2])), Fraction(*gap_of(free.web, heaviest, rule))
                    self.assertLessEqual(steep, gap)
                    met += steep * 2 > gap
        self.assertGreater(met, 100)

    def test_all_small_rests(self):
        for s, r in itertools.product([1, 2, 3], repeat=2):
            web = two_hands(s, r)
            for weights in itertools.combinations_with_replacement([1, 2, 3], 3):
                goods = Goods(web, list(zip("pqr", weights, [None] * 3)))
                for hands in itertools.product("ab", repeat=3):
                    stand = dict(zip("pqr", hands))
                    for rule in LET_BY:
                        if at_rest(goods, stand, rule):
                            gap = Fraction(*gap_of(web, max(weights), rule))
                            self.assertLessEqual(Fraction(*steepest(goods, stand)), gap, (rule, weights, hands))


class WorstLoads(unittest.TestCase):
    def test_it_meets_the_gap(self):
        for rule in LET_BY:
            for weight in SOME_WEIGHTS:
                with self.subTest(rule=rule, weight=weight):
                    told = worst_of(weight, rule)
                    self.assertIs(told.__class__, tuple)
                    goods, stand = told
                    self.assertIsInstance(goods, Goods)
                    self.assertIs(stand.__class__, dict)
                    self.assertEqual(goods.web.hands(), ["a", "b"])
                    self.assertEqual([goods.web.strength(hand) for hand in "ab"], [1, 1])
                    self.assertEqual(goods.web.ties(), [("a", "b")])
                    self.assertTrue(goods.are_free())
                    self.assertLessEqual(len(goods.names()), 30)
                    self.assertLessEqual(max(goods.weight(name) for name in goods.names()), weight)
                    self.assertTrue(at_rest(goods, stand, rule))
                    self.assertTrue(oracle.at_rest(goods, stand, rule))
                    self.assertEqual(steepest(goods, stand), gap_of(goods.web, weight, rule))
                    self.assertEqual(oracle.steepest(goods, stand), oracle.gap_of(goods.web, weight, rule))

    def test_the_gaps_by_hand(self):
        for rules, expected in [(FALL, 5), (CALM, 9), (SHARES, 19)]:
            for rule in rules:
                self.assertEqual(steepest(*worst_of(5, rule)), (expected, 1))

    def test_it_is_the_askers_own(self):
        for rule in LET_BY:
            goods, stand = worst_of(3, rule)
            kept = dict(stand)
            stand.clear()
            again = worst_of(3, rule)
            self.assertEqual(again[1], kept)
            self.assertEqual(again[0].names(), goods.names())
            self.assertEqual([again[0].weight(name) for name in kept], [goods.weight(name) for name in kept])


class Refusals(unittest.TestCase):
    def refused(self, refusal, function, *given):
        with self.subTest(function=function, given=given), self.assertRaises(refusal) as caught:
            function(*given)
        self.assertIsInstance(caught.exception, EvenError)
        self.assertIs(caught.exception.__class__, refusal)

    def test_no_rule(self):
        for rule in NO_RULES:
            self.refused(NoRule, rest_by, small_goods(), SMALL_STAND, rule)
            self.refused(NoRule, gap_of, two_hands(), 1, rule)
            self.refused(NoRule, worst_of, 1, rule)

    def test_not_let_by(self):
        self.assertEqual(len(NOT_LET_BY), 9)
        for rule in NOT_LET_BY:
            self.refused(NotLetBy, rest_by, small_goods(), SMALL_STAND, rule)
            self.refused(NotLetBy, gap_of, two_hands(), 1, rule)
            self.refused(NotLetBy, gap_of, path(1), 1, rule)
            self.refused(NotLetBy, worst_of, 1, rule)

    def test_no_stand(self):
        for stand in wrong_stands():
            for rule in LET_BY:
                self.refused(NoStand, rest_by, small_goods(), stand, rule)

    def test_no_weight(self):
        for weight in NO_WEIGHTS:
            for rule in LET_BY:
                self.refused(NoWeight, gap_of, two_hands(), weight, rule)
                self.refused(NoWeight, gap_of, path(1), weight, rule)
                self.refused(NoWeight, worst_of, weight, rule)

    def test_their_order(self):
        for rule in [None, "turns", "shares  all", [], "least one"]:
            for stand in [None, {}, {"a": "b", "q": "x"}, "bc"]:
                self.refused(NoRule, rest_by, small_goods(), stand, rule)
            for weight in [0, -1, 10 ** 9 + 1, True, "1", None]:
                self.refused(NoRule, gap_of, two_hands(), weight, rule)
                self.refused(NoRule, worst_of, weight, rule)
        for rule in NOT_LET_BY:
            for stand in [None, {}, {"a": "b", "q": "x"}, "bc"]:
                self.refused(NotLetBy, rest_by, small_goods(), stand, rule)
            for weight in [0, -1, 10 ** 9 + 1, True, "1", None]:
                self.refused(NotLetBy, gap_of, two_hands(), weight, rule)
                self.refused(NotLetBy, worst_of, weight, rule)


class WhatIsToldAndWhatIsHandedIn(unittest.TestCase):
    def test_asked_again_the_same(self):
        goods, stand = by_chance(3, hands=5, pieces=9)
        kept = copy.deepcopy(stand)
        for rule in LET_BY:
            self.assertEqual(rest_by(goods, stand, rule), rest_by(goods, stand, rule))
            self.assertEqual(gap_of(goods.web, 9, rule), gap_of(goods.web, 9, rule))
            self.assertIsNot(gap_of(goods.web, 9, rule), gap_of(goods.web, 9, rule))
            self.assertIsNot(gap_of(path(1), 9, rule), gap_of(path(1), 9, rule))
        self.assertEqual(list(stand.items()), list(kept.items()))

    def test_the_number_goes_by_the_stand_as_it_is_then(self):
        goods, stand = laid(two_hands(), p=(1, "a"), q=(1, "a"))
        self.assertEqual(rest_by(goods, stand, "shares one"), 2)
        stand["p"] = "b"
        self.assertEqual(rest_by(goods, stand, "shares one"), 0)
        self.assertEqual(stand_after(goods, stand, "shares one", 0), stand)


if __name__ == "__main__":
    unittest.main()
