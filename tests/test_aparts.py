"""[2], [3], [44], [45]: hands that are no neighbours."""

import itertools
import random
import unittest
from fractions import Fraction

import oracle
from evenpieces.aparts import apart_by
from evenpieces.bounds import gap_of
from evenpieces.errors import EvenError, NoHand, NoRule, NotLetBy, NoWeight
from evenpieces.goods import Goods
from evenpieces.rules import at_rest
from evenpieces.runs import run_of
from evenpieces.stands import heights
from evenpieces.webs import Web
from oddments import NO_NAMES, NO_WEIGHTS
from oracle import LET_BY, RULES
from samples import NO_RULES, by_chance, path, star, two_hands

NOT_LET_BY = [rule for rule in RULES if rule not in LET_BY]


def square():
    """A ring of four hands: a-b, b-c, c-d and d-a of the strengths 1, 2, 4, 1."""
    return Web([("a", 1), ("b", 2), ("c", 4), ("d", 1)], [("a", "b"), ("b", "c"), ("c", "d"), ("d", "a")])


class Aparts(unittest.TestCase):
    def each(self, rules, web, weight, one, other, expected):
        for rule in rules:
            with self.subTest(rule=rule, one=one, other=other):
                told = apart_by(web, weight, rule, one, other)
                self.assertEqual(told, expected)
                self.assertEqual(apart_by(web, weight, rule, other, one), expected)
                if told is not None:
                    self.assertIs(told.__class__, tuple)
                    self.assertEqual([part.__class__ for part in told], [int, int])

    def test_two_tied_hands(self):
        for s, r, weight in itertools.product([1, 2, 3, 1000], [1, 5, 999], [1, 2, 7, 10 ** 9]):
            web = two_hands(s, r)
            for rule in LET_BY:
                self.each([rule], web, weight, "a", "b", gap_of(web, weight, rule))

    def test_one_hand(self):
        for web in [path(1), path(3, 1, 2), square()]:
            for hand in web.hands():
                self.each(LET_BY, web, 5, hand, hand, (0, 1))

    def test_no_way(self):
        web = Web([("a", 1), ("b", 1), ("c", 1), ("d", 1)], [("a", "b"), ("c", "d")])
        for one, other in [("a", "c"), ("a", "d"), ("b", "c"), ("b", "d")]:
            self.each(LET_BY, web, 5, one, other, None)
        self.each(LET_BY, Web([("a", 1), ("b", 1)], []), 5, "a", "b", None)
        self.each(["below one fall"], web, 5, "c", "d", (5, 1))

    def test_over_several_ties(self):
        # Of strengths 1, 2 and 2, 4 the gaps by fall are 4 * 3 / 4 and 4 * 6 / 16, by calm 11 / 2 and 23 / 8.
        web = path(1, 2, 4)
        self.each(["below one fall", "turns fall"], web, 4, "a", "c", (9, 2))
        self.each(["below one calm", "turns calm"], web, 4, "a", "c", (67, 8))
        # n is 3: 35 / 2 and 71 / 8.
        self.each(["shares one", "shares all"], web, 4, "a", "c", (211, 8))
        # By least each tie has the greater of both.
        self.each(["least one fall"], web, 4, "a", "c", (6, 1))
        self.each(["least one calm"], web, 4, "a", "c", (11, 1))
        self.each(["least one fall"], web, 4, "b", "c", (3, 1))
        self.each(["below one fall"], web, 4, "b", "c", (3, 2))

    def test_the_least_over_all_ways(self):
        # By fall with weight 8: a-b 6, b-c 3, c-d 5, d-a 8.
        self.each(["below one fall", "turns fall"], square(), 8, "a", "c", (9, 1))
        self.each(["below one fall", "turns fall"], square(), 8, "a", "d", (8, 1))
        self.each(["below one fall", "turns fall"], square(), 8, "b", "d", (8, 1))
        self.each(["below one fall", "turns fall"], square(), 8, "a", "b", (6, 1))

    def test_a_way_of_more_ties_may_be_shorter(self):
        hands = [("a", 1), ("b", 1), ("x", 1), ("y", 100), ("z", 100)]
        web = Web(hands, [("a", "x"), ("x", "b"), ("a", "y"), ("y", "z"), ("z", "b")])
        # By fall with weight 200: a-x and x-b 200 each, a-y and z-b 101 each, y-z 2.
        self.each(["below one fall", "turns fall"], web, 200, "a", "b", (204, 1))
        self.each(["below one fall", "turns fall"], web, 200, "a", "z", (103, 1))
        self.each(["below one fall", "turns fall"], web, 200, "x", "y", (301, 1))
        # By least a-y and z-b have 200 beside them, and y-z 101.
        self.each(["least one fall"], web, 200, "a", "b", (400, 1))
        self.each(["least one fall"], web, 200, "a", "z", (301, 1))

    def test_by_least_the_greatest_of_all_ties_of_both_hands(self):
        # By fall with weight 8: a-b 6, b-c 3, c-d 5, d-a 8, so by least a-b, c-d and d-a 8, b-c 6.
        self.each(["least one fall"], square(), 8, "b", "c", (6, 1))
        self.each(["least one fall"], square(), 8, "a", "b", (8, 1))
        self.each(["least one fall"], square(), 8, "c", "d", (8, 1))
        self.each(["least one fall"], square(), 8, "a", "d", (8, 1))
        self.each(["least one fall"], square(), 8, "a", "c", (14, 1))
        self.each(["least one fall"], square(), 8, "b", "d", (14, 1))

    def test_by_least_ties_that_are_further_away_do_not_count(self):
        web = path(1, 1, 2, 2, 1, 1)
        # By fall with weight 4: 4, 3, 2, 3, 4; c-d has the 3 of b-c and of d-e beside it, not the 4 of a-b.
        self.each(["least one fall"], web, 4, "c", "d", (3, 1))
        self.each(["below one fall"], web, 4, "c", "d", (2, 1))
        self.each(["least one fall"], web, 4, "b", "c", (4, 1))
        self.each(["least one fall"], web, 4, "a", "f", (19, 1))
        self.each(["below one fall"], web, 4, "a", "f", (16, 1))

    def test_by_shares_the_neighbours_of_the_whole_web_count(self):
        # n is 4 for the star's middle, also for the tie of its own in the other part.
        web = Web([(name, 1) for name in "abcdef"], [("a", "b"), ("a", "c"), ("a", "d"), ("e", "f")])
        self.each(["shares one", "shares all"], web, 2, "e", "f", (15, 1))
        self.each(["shares one", "shares all"], web, 2, "b", "c", (30, 1))

    def test_a_long_way_against_the_order_of_the_names(self):
        web = Web([(name, 1) for name in "abcdefgh"], list(zip("hgfedcba", "gfedcba")))
        self.each(["below one fall"], web, 1, "a", "h", (7, 1))
        mixed = "aehbdgcf"
        web = Web([(name, 1) for name in mixed], list(zip(mixed, mixed[1:])))
        for place, name in enumerate(mixed):
            self.each(["below one fall", "least one fall"], web, 3, "a", name, (3 * place, 1))

    def test_against_the_second_reckoning(self):
        chance = random.Random(2)
        for seed in range(60):
            web = by_chance(seed, hands=1 + seed % 6)[0].web
            for rule in LET_BY:
                weight = chance.choice([1, 2, chance.randint(1, 50), 10 ** 9])
                for one, other in itertools.product(web.hands(), repeat=2):
                    with self.subTest(seed=seed, rule=rule, weight=weight, one=one, other=other):
                        self.assertEqual(apart_by(web, weight, rule, one, other),
                                         oracle.apart_by(web, weight, rule, one, other))

    def test_sparse_webs_of_eight_hands(self):
        for seed in range(40):
            chance = random.Random(seed)
            names = chance.sample("abcdefgh", 8)
            ties = [(names[place], chance.choice(names[:place])) for place in range(1, 8)]
            pairs = [pair for pair in itertools.combinations(names, 2) if pair not in ties and pair[::-1] not in ties]
            web = Web([(name, chance.randint(1, 9)) for name in names], ties + chance.sample(pairs, seed % 3))
            for rule in LET_BY:
                for one, other in itertools.combinations(names, 2):
                    self.assertEqual(apart_by(web, 5, rule, one, other), oracle.apart_by(web, 5, rule, one, other))


class AtRest(unittest.TestCase):
    def within(self, goods, stand, rule, weight):
        high = heights(goods, stand)
        near = 0
        for one, other in itertools.combinations(goods.web.hands(), 2):
            most = apart_by(goods.web, weight, rule, one, other)
            if most is not None:
                apart = abs(Fraction(*high[one]) - Fraction(*high[other]))
                self.assertLessEqual(apart, Fraction(*most), (one, other))
                near += 2 * apart > Fraction(*most)
        return near

    def test_heights_differ_by_no_more(self):
        near = 0
        for seed in range(150):
            goods, stand = by_chance(seed, pieces=1 + seed % 15)
            free = Goods(goods.web, [(name, goods.weight(name), None) for name in goods.names()])
            heaviest = max(free.weight(name) for name in free.names())
            for rule in LET_BY:
                with self.subTest(seed=seed, rule=rule):
                    near += self.within(free, run_of(free, stand, rule, 3000)[2], rule, heaviest)
        self.assertGreater(near, 100)

    def test_all_small_rests(self):
        for web in [path(1, 1, 1), path(1, 2, 1), path(2, 1, 1), star(1, 1, 2)]:
            for weights in itertools.combinations_with_replacement([1, 2], 4):
                goods = Goods(web, list(zip("pqrs", weights, [None] * 4)))
                for hands in itertools.product("abc", repeat=4):
                    stand = dict(zip("pqrs", hands))
                    for rule in LET_BY:
                        if at_rest(goods, stand, rule):
                            self.within(goods, stand, rule, max(weights))


class Refusals(unittest.TestCase):
    def refused(self, refusal, *given):
        with self.subTest(given=given), self.assertRaises(refusal) as caught:
            apart_by(*given)
        self.assertIsInstance(caught.exception, EvenError)
        self.assertIs(caught.exception.__class__, refusal)

    def test_no_rule(self):
        for rule in NO_RULES:
            self.refused(NoRule, two_hands(), 1, rule, "a", "b")

    def test_not_let_by(self):
        for rule in NOT_LET_BY:
            self.refused(NotLetBy, two_hands(), 1, rule, "a", "b")
            self.refused(NotLetBy, two_hands(), 1, rule, "a", "a")

    def test_no_weight(self):
        for weight in NO_WEIGHTS:
            for rule in LET_BY:
                self.refused(NoWeight, two_hands(), weight, rule, "a", "b")
                self.refused(NoWeight, two_hands(), weight, rule, "a", "a")

    def test_no_hand(self):
        for hand in NO_NAMES + ["c", "ab"]:
            for rule in LET_BY:
                self.refused(NoHand, two_hands(), 1, rule, hand, "b")
                self.refused(NoHand, two_hands(), 1, rule, "a", hand)
                self.refused(NoHand, two_hands(), 1, rule, hand, hand)

    def test_their_order(self):
        rules, others, weights, hands = [None, "turns", []], NOT_LET_BY, [0, 10 ** 9 + 1, True, "1", None], ["c", None, []]
        for hand in hands + ["b"]:
            for weight in weights + [1]:
                for rule in rules:
                    self.refused(NoRule, two_hands(), weight, rule, "a", hand)
                    self.refused(NoRule, two_hands(), weight, rule, hand, "a")
                for rule in others:
                    self.refused(NotLetBy, two_hands(), weight, rule, "a", hand)
                    self.refused(NotLetBy, two_hands(), weight, rule, hand, "a")
            for weight in weights:
                self.refused(NoWeight, two_hands(), weight, "shares one", "a", hand)
                self.refused(NoWeight, two_hands(), weight, "shares one", hand, "a")

    def test_asked_again_the_same(self):
        for rule in LET_BY:
            for one, other in [("a", "a"), ("a", "b"), ("a", "c")]:
                first, second = [apart_by(square(), 7, rule, one, other) for time in range(2)]
                self.assertEqual(first, second)
                self.assertIsNot(first, second)


if __name__ == "__main__":
    unittest.main()
