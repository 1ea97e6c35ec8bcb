"""[2], [3], [35], [36]: fewest moves."""

import copy
import itertools
import random
import unittest
from fractions import Fraction

import oracle
from evenpieces.errors import EvenError, NoFraction, NoMost, NoStand
from evenpieces.fewests import fewest_moves, reached_by
from evenpieces.goods import Goods
from evenpieces.moves import judged
from evenpieces.stands import spread
from evenpieces.webs import Web
from oddments import NO_FRACTIONS, NO_WHOLE_NUMBERS
from samples import NO_MOMENTS, SMALL_STAND, by_chance, laid, path, small_goods, star, two_hands, wrong_stands

NONE = ("none",)
MORE = ("more",)
# 10 ** 30 is a most, though one beyond the bounds.
NO_MOSTS = [thing for thing in NO_WHOLE_NUMBERS if thing not in (10 ** 30, 10 ** 5000)]


def binary(pieces):
    """A web of two hands and so many pieces: each of 2 ** pieces stands can be come to."""
    goods = Goods(two_hands(), [(name, 1, None) for name in "abcdefghijklmnopqrstuvwxyz"[:pieces]])
    return goods, {name: "a" for name in goods.names()}


class FewestCase(unittest.TestCase):
    def good(self, goods, stand, limit, most, count):
        """The row is judged good, leads within limit, and is as long as told."""
        told = fewest_moves(goods, stand, limit, most)
        self.assertIs(told.__class__, tuple)
        self.assertEqual((told[0], len(told)), ("moves", 2))
        self.assertIs(told[1].__class__, list)
        self.assertEqual(len(told[1]), count, told[1])
        answer = judged(goods, stand, told[1])
        self.assertEqual(answer[0], "good", told[1])
        self.assertLessEqual(Fraction(*spread(goods, answer[1])), Fraction(*limit))
        return told[1]


class Rows(FewestCase):
    def test_no_move_needed(self):
        goods, stand = laid(two_hands(), p=(3, "a"), q=(2, "b"))
        for limit in [(1, 1), (3, 2), (10 ** 12, 1)]:
            for most in [1, 2, 3000]:
                self.assertEqual(fewest_moves(goods, stand, limit, most), ("moves", []))

    def test_no_pieces(self):
        for web in [path(1), path(1, 2, 3)]:
            self.assertEqual(fewest_moves(Goods(web, []), {}, (0, 1), 1), ("moves", []))
            self.assertEqual(fewest_moves(Goods(web, []), {}, (-1, 2), 1), NONE)

    def test_one_move(self):
        goods, stand = laid(two_hands(), p=(3, "a"), q=(2, "a"))
        self.assertIn(self.good(goods, stand, (1, 1), 3000, 1), [[("p", "a", "b")], [("q", "a", "b")]])
        self.assertIn(self.good(goods, stand, (4, 1), 3000, 1), [[("p", "a", "b")], [("q", "a", "b")]])

    def test_several_moves(self):
        goods, stand = laid(path(1, 1, 1), p=(1, "a"), q=(1, "a"), r=(1, "a"))
        self.good(goods, stand, (0, 1), 3000, 3)
        self.good(goods, stand, (1, 1), 3000, 3)
        self.good(goods, stand, (2, 1), 3000, 1)
        self.good(goods, stand, (3, 1), 3000, 0)
        goods, stand = laid(path(1, 1, 1, 1, 1), p=(1, "a"), q=(1, "a"), r=(1, "b"), s=(1, "b"), t=(1, "a"))
        self.good(goods, stand, (0, 1), 3000, 4 + 2 + 2)

    def test_the_heights_count_and_not_the_loads(self):
        goods, stand = laid(two_hands(1, 3), p=(3, "a"), q=(1, "a"))
        self.assertEqual(self.good(goods, stand, (0, 1), 4, 1), [("p", "a", "b")])
        self.assertEqual(self.good(goods, stand, (1, 3), 4, 1), [("p", "a", "b")])

    def test_limits_that_are_just_met_and_just_missed(self):
        # Heights 2 and 1 / 3: the spread is 5 / 3; 0 and 3 / 3 would be 1; 3 and 0 / 3 is 3.
        goods, stand = laid(two_hands(1, 3), p=(2, "a"), q=(1, "a"))
        self.good(goods, stand, (3, 1), 4, 0)
        self.good(goods, stand, (2999999999, 1000000000), 4, 1)
        self.good(goods, stand, (1, 3), 4, 1)
        self.assertEqual(fewest_moves(goods, stand, (333333333, 1000000000), 4), NONE)

    def test_fixed_pieces(self):
        goods, stand = laid(path(1, 1), p=(2, "a", []), q=(1, "a"), r=(1, "a"))
        self.assertIn(self.good(goods, stand, (0, 1), 4, 2),
                      [[("q", "a", "b"), ("r", "a", "b")], [("r", "a", "b"), ("q", "a", "b")]])
        goods, stand = laid(path(1, 1), p=(2, "a", []), q=(2, "a", []))
        self.assertEqual(fewest_moves(goods, stand, (0, 1), 1), NONE)
        self.good(goods, stand, (4, 1), 1, 0)

    def test_pieces_of_some_ties_alone(self):
        ring = Web([("a", 1), ("b", 1), ("c", 1)], [("a", "b"), ("b", "c"), ("a", "c")])
        goods, stand = laid(ring, p=(1, "a"), q=(1, "a", [("a", "b"), ("b", "c")]), r=(1, "b", []))
        # The free piece goes to c at once; the other one would need two moves.
        self.assertEqual(self.good(goods, stand, (0, 1), 3000, 1), [("p", "a", "c")])
        goods, stand = laid(ring, p=(1, "a", []), q=(1, "a", [("a", "b"), ("b", "c")]), r=(1, "b", []))
        self.assertEqual(self.good(goods, stand, (0, 1), 3000, 2), [("q", "a", "b"), ("q", "b", "c")])
        goods, stand = laid(ring, p=(1, "a", []), q=(1, "a", [("a", "b")]), r=(1, "b", []))
        self.assertEqual(fewest_moves(goods, stand, (0, 1), 2), NONE)

    def test_moves_that_make_it_more_uneven_first(self):
        # The piece of 5 stands between; it has to go through b, where 4 are.
        goods, stand = laid(path(1, 1, 1), p=(5, "a"), q=(5, "a", []), r=(4, "b", []))
        self.assertEqual(self.good(goods, stand, (1, 1), 3, 2), [("p", "a", "b"), ("p", "b", "c")])

    def test_limits_that_no_stand_meets(self):
        goods, stand = laid(two_hands(), p=(3, "a"), q=(2, "a"))
        for limit in [(0, 1), (1, 2), (999999999, 1000000000), (-1, 1), (-1, 2), (-10 ** 9, 7)]:
            for most in [4, 5, 3000]:
                self.assertEqual(fewest_moves(goods, stand, limit, most), NONE)

    def test_without_ties(self):
        goods, stand = laid(Web([("a", 1), ("b", 1)], []), p=(3, "a"), q=(2, "b"))
        self.assertEqual(fewest_moves(goods, stand, (0, 1), 1), NONE)
        self.good(goods, stand, (1, 1), 1, 0)

    def test_more_only_where_more_than_most_stands_can_be_come_to(self):
        # Of two pieces on two hands there are four stands, none of a spread of nought.
        goods, stand = laid(two_hands(), p=(3, "a"), q=(2, "a"))
        for most in [1, 2, 3]:
            self.assertIn(fewest_moves(goods, stand, (0, 1), most), [MORE, NONE])
        for most in [4, 5]:
            self.assertEqual(fewest_moves(goods, stand, (0, 1), most), NONE)
        goods, stand = binary(11)
        self.assertEqual(fewest_moves(goods, stand, (0, 1), 2048), NONE)
        self.assertIn(fewest_moves(goods, stand, (0, 1), 2047), [MORE, NONE])
        self.good(goods, stand, (1, 1), 2048, 5)

    def test_more_is_told_where_the_looking_would_be_long(self):
        goods, stand = binary(25)
        self.assertIn(fewest_moves(goods, stand, (0, 1), 3000), [MORE, NONE])
        self.assertIs(fewest_moves(goods, stand, (0, 1), 3000).__class__, tuple)

    def test_thirty_pieces_on_eight_hands(self):
        names = [one + other for one in "pqrstu" for other in "abcde"]
        goods = Goods(star(*[1] * 8), [(name, 1, None) for name in names])
        stand = {name: "abcdefgh"[place % 8] for place, name in enumerate(goods.names())}
        # g and h have 3, all others 4.
        self.good(goods, stand, (1, 1), 3000, 0)
        stand[names[0]] = "h"
        self.good(goods, stand, (1, 1), 3000, 0)
        stand[names[0]], stand[names[1]] = "a", "a"
        self.assertEqual(spread(goods, stand), (2, 1))
        self.good(goods, stand, (1, 1), 3000, 1)

    def test_against_the_second_reckoning(self):
        seen = {}
        for seed in range(300):
            goods, stand = by_chance(seed, hands=1 + seed % 5, pieces=1 + seed % 3)
            layers = oracle.layers_of(goods, stand, 10 ** 9)
            spreads = [min(Fraction(*oracle.spread(goods, there)) for there in layer) for layer in layers]
            stands = sum(len(layer) for layer in layers)
            chance = random.Random(seed)
            limits = set(spreads) | {Fraction(0), Fraction(-1, 3), min(spreads) - Fraction(1, 10 ** 9), spreads[0] / 2}
            for limit in sorted(limits):
                near = [count for count, least in enumerate(spreads) if least <= limit]
                with self.subTest(seed=seed, limit=limit):
                    for most in [stands, stands + 1, 3000]:
                        if near:
                            self.good(goods, stand, oracle.pair(limit), most, near[0])
                        else:
                            self.assertEqual(fewest_moves(goods, stand, oracle.pair(limit), most), NONE)
                    if stands > 1:
                        told = fewest_moves(goods, stand, oracle.pair(limit), chance.randint(1, stands - 1))
                        if told[0] == "moves":
                            self.assertEqual(len(told[1]), near[0])
                        else:
                            self.assertIn(told, [MORE] if near else [MORE, NONE])
                seen[near[0] if near else None] = True
        for count in [None, 0, 1, 2, 3]:
            self.assertIn(count, seen)

    def test_no_shorter_row_of_all_rows(self):
        for seed in range(40):
            goods, stand = by_chance(seed, hands=3, pieces=2)
            told = fewest_moves(goods, stand, (2, 1), 3000)
            choices = list(itertools.permutations("abc", 2))
            possible = [(piece, one, other) for piece in goods.names() for one, other in choices]
            for long in range(min(3, len(told[1]) if told[0] == "moves" else 3)):
                for row in itertools.product(possible, repeat=long):
                    answer = judged(goods, stand, list(row))
                    if answer[0] == "good":
                        self.assertGreater(Fraction(*spread(goods, answer[1])), 2, (seed, row))


class Reached(FewestCase):
    def test_by_hand(self):
        goods, stand = laid(path(1, 1, 1), p=(1, "a"), q=(1, "a"))
        for count, told in [(0, (1, (2, 1))), (1, (3, (1, 1))), (2, (6, (1, 1))), (3, (8, (1, 1))), (4, (9, (1, 1))),
                            (5, (9, (1, 1))), (3000, (9, (1, 1))), (10 ** 30, (9, (1, 1)))]:
            with self.subTest(count=count):
                self.assertEqual(reached_by(goods, stand, count), told)

    def test_the_least_spread_may_be_the_first(self):
        goods, stand = laid(two_hands(), p=(2, "a"), q=(2, "b"))
        self.assertEqual(reached_by(goods, stand, 0), (1, (0, 1)))
        self.assertEqual(reached_by(goods, stand, 1), (3, (0, 1)))
        self.assertEqual(reached_by(goods, stand, 9), (4, (0, 1)))

    def test_unlike_strengths(self):
        goods, stand = laid(two_hands(2, 3), p=(2, "a"), q=(5, "a"))
        self.assertEqual(reached_by(goods, stand, 0), (1, (7, 2)))
        # 2 / 2 and 5 / 3 are 2 / 3 apart, 5 / 2 and 2 / 3 are 11 / 6, and 7 / 3 is above all.
        self.assertEqual(reached_by(goods, stand, 1), (3, (2, 3)))
        self.assertEqual(reached_by(goods, stand, 2), (4, (2, 3)))

    def test_ways(self):
        goods, stand = laid(path(1, 1, 1), p=(1, "a", []), q=(1, "a", [("b", "c")]), r=(1, "b", [("b", "c")]))
        self.assertEqual(reached_by(goods, stand, 9), (2, (2, 1)))
        self.assertEqual(reached_by(goods, stand, 0), (1, (2, 1)))

    def test_no_pieces_and_no_ties(self):
        self.assertEqual(reached_by(Goods(path(1, 1), []), {}, 0), (1, (0, 1)))
        self.assertEqual(reached_by(Goods(path(1, 1), []), {}, 7), (1, (0, 1)))
        goods, stand = laid(Web([("a", 1), ("b", 2)], []), p=(3, "b"))
        self.assertEqual(reached_by(goods, stand, 7), (1, (3, 2)))

    def test_against_the_second_reckoning(self):
        for seed in range(120):
            goods, stand = by_chance(seed, hands=1 + seed % 4, pieces=1 + seed % 3)
            for count in [0, 1, 2, 3, 5, 100]:
                stands = sum(oracle.layers_of(goods, stand, count), [])
                least = min(Fraction(*oracle.spread(goods, there)) for there in stands)
                with self.subTest(seed=seed, count=count):
                    self.assertEqual(reached_by(goods, stand, count), (len(stands), oracle.pair(least)))

    def test_just_three_thousand(self):
        # By 14 pieces on two hands at most one, two, three moves lead to 15, 106, 470 stands, all to 16,384.
        goods, stand = binary(14)
        self.assertEqual([reached_by(goods, stand, count)[0] for count in range(5)], [1, 15, 106, 470, 1471])
        self.refused(goods, stand, 5)
        # 8 stands of one piece, 5 of another, 5 of two more, and 3 of one: 8 * 5 * 5 * 5 * 3 is 3,000.
        rows = [("p", 8), ("q", 5), ("r", 5), ("s", 5), ("t", 3)]
        ties = list(zip("abcdefgh", "bcdefgh"))
        web = Web([(name, 1) for name in "abcdefgh"], ties)
        goods = Goods(web, [(name, 1, ties[:many - 1]) for name, many in rows])
        stand = {name: "a" for name, many in rows}
        self.assertEqual(reached_by(goods, stand, 100)[0], 3000)
        self.assertEqual(reached_by(goods, stand, 7 + 4 + 4 + 4 + 2), (3000, (1, 1)))
        self.assertEqual(reached_by(goods, stand, 20)[0], 2999)
        self.good(goods, stand, (1, 1), 3000, 1 + 2 + 3 + 4)
        self.assertEqual(fewest_moves(goods, stand, (0, 1), 3000), NONE)

    def test_three_thousand_and_one(self):
        # On a path of eight hands: the pieces' distances from where they are, in sum at most 12.
        goods, stand = laid(path(*[1] * 8), p=(1, "a"), q=(1, "c"), r=(1, "c"), s=(1, "c"))
        away = [range(8)] + [[abs(2 - place) for place in range(8)]] * 3
        many = [sum(sum(ways) <= count for ways in itertools.product(*away)) for count in [11, 12]]
        self.assertEqual(many[1], 3001)
        self.assertEqual(reached_by(goods, stand, 11)[0], many[0])
        for count in [12, 13, 22, 10 ** 9]:
            self.refused(goods, stand, count)

    def refused(self, goods, stand, count):
        with self.subTest(count=count), self.assertRaises(NoMost):
            reached_by(goods, stand, count)

    def test_the_stands_that_are_more_are_refused_at_any_count(self):
        goods, stand = binary(26)
        self.assertEqual(reached_by(goods, stand, 2), (1 + 26 + 325, (22, 1)))
        self.assertEqual(reached_by(goods, stand, 3), (1 + 26 + 325 + 2600, (20, 1)))
        for count in [4, 5, 3000, 10 ** 30]:
            self.refused(goods, stand, count)

    def test_kinds(self):
        goods, stand = laid(two_hands(), p=(2, "a"))
        told = reached_by(goods, stand, 1)
        self.assertIs(told.__class__, tuple)
        self.assertEqual([part.__class__ for part in told], [int, tuple])


class Refusals(unittest.TestCase):
    def refused(self, refusal, function, *given):
        with self.subTest(function=function, given=given), self.assertRaises(refusal) as caught:
            function(small_goods(), *given)
        self.assertIsInstance(caught.exception, EvenError)
        self.assertIs(caught.exception.__class__, refusal)

    def test_no_fraction(self):
        for limit in NO_FRACTIONS:
            self.refused(NoFraction, fewest_moves, SMALL_STAND, limit, 3000)

    def test_fractions(self):
        for limit in [(0, 1), (1, 1), (-1, 1), (1, 2), (-3, 2), (7, 10 ** 12), (10 ** 12, 7), (1, 10 ** 30)]:
            self.assertIn(fewest_moves(small_goods(), SMALL_STAND, limit, 3000)[0], ["moves", "none"])

    def test_no_stand(self):
        for stand in wrong_stands():
            self.refused(NoStand, fewest_moves, stand, (1, 2), 3000)
            self.refused(NoStand, reached_by, stand, 1)

    def test_no_most(self):
        for most in NO_MOSTS:
            self.refused(NoMost, fewest_moves, SMALL_STAND, (1, 2), most)
            # Also where no move is needed.
            self.refused(NoMost, fewest_moves, SMALL_STAND, (10 ** 12, 1), most)

    def test_no_count(self):
        for count in NO_MOMENTS:
            self.refused(NoMost, reached_by, SMALL_STAND, count)

    def test_their_order(self):
        for stand in [None, {}, [], {"a": "b", "q": "x"}]:
            for most in [0, -1, True, "1", None]:
                for limit in [None, (2, 4), (1, 0), "1/2", (True, 1), (0, 2)]:
                    self.refused(NoFraction, fewest_moves, stand, limit, most)
                    self.refused(NoFraction, fewest_moves, stand, limit, 1)
                    self.refused(NoFraction, fewest_moves, SMALL_STAND, limit, most)
                self.refused(NoStand, fewest_moves, stand, (1, 2), most)
                self.refused(NoStand, reached_by, stand, most)
        for count in [-1, True, "1", None]:
            self.refused(NoStand, reached_by, {}, count)


class WhatIsToldAndWhatIsHandedIn(unittest.TestCase):
    def test_what_is_told_is_the_askers_own(self):
        goods, stand = laid(path(1, 1, 1), p=(1, "a"), q=(1, "a"), r=(1, "a"))
        for limit, most in [((0, 1), 3000), ((0, 1), 2), ((-1, 1), 3000), ((3, 1), 1)]:
            first, second = [fewest_moves(goods, stand, limit, most) for time in range(2)]
            self.assertEqual(first, second)
            self.assertIsNot(first, second)
            if first[0] == "moves":
                first[1].append("x")
                self.assertEqual(fewest_moves(goods, stand, limit, most), second)
        self.assertIsNot(reached_by(goods, stand, 2), reached_by(goods, stand, 2))
        self.assertEqual(reached_by(goods, stand, 2), reached_by(goods, stand, 2))

    def test_what_is_handed_in_stays(self):
        goods, stand = laid(path(1, 1, 1), r=(1, "a"), q=(1, "a"), p=(1, "a"))
        kept = copy.deepcopy(stand)
        fewest_moves(goods, stand, (0, 1), 3000)
        reached_by(goods, stand, 3)
        self.assertEqual(list(stand.items()), list(kept.items()))
        self.assertEqual(judged(goods, stand, fewest_moves(goods, stand, (0, 1), 3000)[1])[0], "good")

    def test_the_order_in_which_a_stand_is_written_does_not_count(self):
        goods, stand = laid(path(1, 1, 1), r=(3, "a"), q=(2, "b"), p=(1, "c"))
        turned = dict(reversed(stand.items()))
        self.assertEqual(fewest_moves(goods, stand, (0, 1), 99), fewest_moves(goods, turned, (0, 1), 99))
        self.assertEqual(reached_by(goods, stand, 2), reached_by(goods, turned, 2))


if __name__ == "__main__":
    unittest.main()
