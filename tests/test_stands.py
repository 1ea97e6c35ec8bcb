"""[2], [9] to [12]: stands."""

import copy
import unittest

import oracle
from evenpieces.errors import NoHand, NoStand
from evenpieces.goods import Goods
from evenpieces.stands import heights, loads, pieces_at, spread, steepest, sum_of
from evenpieces.webs import Web
from oddments import NO_NAMES
from samples import SMALL_STAND, by_chance, laid, path, piece_names, small_goods, star, two_hands, wrong_stands

OF_TWO = [loads, heights, sum_of, spread, steepest]


def at_c(goods, stand):
    return pieces_at(goods, stand, "c")


class WhatIsAStand(unittest.TestCase):
    def test_no_pieces(self):
        goods = Goods(path(2, 3), [])
        self.assertEqual(loads(goods, {}), {"a": 0, "b": 0})
        self.assertEqual(heights(goods, {}), {"a": (0, 1), "b": (0, 1)})
        self.assertEqual(pieces_at(goods, {}, "a"), [])
        self.assertEqual(sum_of(goods, {}), 0)
        self.assertEqual(spread(goods, {}), (0, 1))
        self.assertEqual(steepest(goods, {}), (0, 1))

    def test_no_pieces_but_something_in_the_stand(self):
        goods = Goods(path(2, 3), [])
        for stand in [{"p": "a"}, {"a": "a"}, {None: "a"}, [], (), None, "", set()]:
            for function in OF_TWO:
                with self.subTest(stand=stand, function=function), self.assertRaises(NoStand):
                    function(goods, stand)

    def test_thirty_pieces(self):
        names = piece_names(30)
        web = path(1, 2, 4, 5, 8, 10, 20, 40)
        goods = Goods(web, [(name, number + 1, None) for number, name in enumerate(names)])
        stand = {name: "abcdefgh"[number % 8] for number, name in enumerate(names)}
        # The hand at place k has the weights k + 1, k + 9, k + 17 and, the last two hands apart, k + 25.
        self.assertEqual(list(loads(goods, stand).values()), [52, 56, 60, 64, 68, 72, 45, 48])
        self.assertEqual(heights(goods, stand)["g"], (9, 4))
        self.assertEqual(heights(goods, stand)["h"], (6, 5))
        self.assertEqual(pieces_at(goods, stand, "h"), ["qc", "sa", "td"])
        self.assertEqual(pieces_at(goods, stand, "a"), ["pa", "qd", "sb", "te"])
        self.assertEqual(spread(goods, stand), (254, 5))
        self.assertEqual(steepest(goods, stand), (24, 1))

    def test_the_order_of_the_dict_is_nothing(self):
        goods = small_goods()
        turned = dict(reversed(SMALL_STAND.items()))
        for function in OF_TWO + [at_c]:
            self.assertEqual(function(goods, turned), function(goods, SMALL_STAND))

    def test_what_is_none_is_refused_by_all(self):
        goods = small_goods()
        for stand in wrong_stands():
            for function in OF_TWO + [at_c]:
                with self.subTest(stand=stand, function=function), self.assertRaises(NoStand):
                    function(goods, stand)

    def test_a_stand_of_other_goods_is_none(self):
        goods = small_goods()
        others, stand = laid(path(1, 2, 3), p=(1, "a"), q=(1, "b"))
        self.assertEqual(loads(others, stand), {"a": 1, "b": 1, "c": 0})
        with self.assertRaises(NoStand):
            loads(goods, stand)
        with self.assertRaises(NoStand):
            loads(others, SMALL_STAND)

    def test_every_good_stand_is_taken(self):
        goods = small_goods()
        for one in "abc":
            for other in "abc":
                expected = {hand: 5 * (hand == one) + 4 * (hand == other) for hand in "abc"}
                self.assertEqual(loads(goods, {"a": one, "q": other}), expected)


class LoadsAndHeights(unittest.TestCase):
    def test_loads(self):
        goods, stand = laid(path(1, 1, 1), p=(3, "c"), q=(4, "a"), r=(5, "c"))
        self.assertEqual(loads(goods, stand), {"a": 4, "b": 0, "c": 8})

    def test_heights_are_in_least_numbers(self):
        goods, stand = laid(path(6, 4, 5, 7, 1), p=(4, "a"), q=(8, "b"), r=(7, "c"), t=(9, "e"))
        expected = {"a": (2, 3), "b": (2, 1), "c": (7, 5), "d": (0, 1), "e": (9, 1)}
        self.assertEqual(heights(goods, stand), expected)

    def test_heights_of_great_numbers(self):
        goods, stand = laid(path(999, 1000), p=(10 ** 9, "a"), q=(999999999, "a"), r=(10 ** 9, "b"))
        self.assertEqual(heights(goods, stand), {"a": (1999999999, 999), "b": (1000000, 1)})

    def test_the_order_is_that_of_the_hands(self):
        web = Web([("cc", 1), ("b", 2), ("ca", 3), ("a", 4)], [])
        goods, stand = laid(web, p=(1, "cc"), q=(1, "b"))
        for function in [loads, heights]:
            self.assertEqual(list(function(goods, stand)), ["a", "b", "ca", "cc"])
            self.assertEqual(list(function(Goods(web, []), {})), ["a", "b", "ca", "cc"])

    def test_kinds(self):
        goods, stand = laid(path(2, 3), p=(4, "a"))
        self.assertIs(loads(goods, stand).__class__, dict)
        self.assertIs(heights(goods, stand).__class__, dict)
        for height in heights(goods, stand).values():
            self.assertIs(height.__class__, tuple)
            self.assertEqual([number.__class__ for number in height], [int, int])


class PiecesAtAHand(unittest.TestCase):
    def test_sorted_by_name(self):
        goods, stand = laid(path(1, 1, 1), z=(1, "a"), b=(9, "a"), ab=(5, "a"), p=(2, "b"))
        self.assertEqual(pieces_at(goods, stand, "a"), ["ab", "b", "z"])
        self.assertEqual(pieces_at(goods, stand, "b"), ["p"])
        self.assertEqual(pieces_at(goods, stand, "c"), [])

    def test_what_is_no_hand(self):
        goods = small_goods()
        for hand in NO_NAMES + ["d", "q", "ab", "bb", ("a", "b"), -1]:
            with self.subTest(hand=hand), self.assertRaises(NoHand):
                pieces_at(goods, SMALL_STAND, hand)
            with self.subTest(hand=hand, pieces=None), self.assertRaises(NoHand):
                pieces_at(Goods(path(1), []), {}, hand)

    def test_no_stand_goes_ahead_of_no_hand(self):
        for stand in [None, {}, {"a": "b"}, {"a": "b", "q": "d"}, [], "bc"]:
            for hand in [None, "d", "", 1, []]:
                with self.subTest(stand=stand, hand=hand), self.assertRaises(NoStand):
                    pieces_at(small_goods(), stand, hand)


class Sums(unittest.TestCase):
    def test_like_strengths(self):
        goods, stand = laid(path(1, 1, 1), p=(3, "a"), q=(4, "a"), r=(5, "c"))
        self.assertEqual(sum_of(goods, stand), 49 + 25)

    def test_like_strengths_count_once(self):
        goods, stand = laid(path(4, 4), p=(3, "a"), q=(5, "b"))
        self.assertEqual(sum_of(goods, stand), 9 + 25)

    def test_unlike_strengths(self):
        # 60 is the least number that 4, 6 and 10 divide.
        goods, stand = laid(path(4, 6, 10), p=(3, "a"), q=(5, "b"), r=(7, "c"))
        self.assertEqual(sum_of(goods, stand), 9 * 15 + 25 * 10 + 49 * 6)

    def test_strengths_of_hands_without_pieces_count(self):
        goods, stand = laid(path(2, 3, 7), p=(5, "a"))
        self.assertEqual(sum_of(goods, stand), 25 * 21)

    def test_pieces_of_one_hand_are_added_first(self):
        goods, stand = laid(two_hands(), p=(1, "a"), q=(1, "a"))
        self.assertEqual(sum_of(goods, stand), 4)

    def test_great_strengths(self):
        strengths = [1000, 999, 997, 991, 983, 977, 971, 967]
        goods, stand = laid(path(*strengths), p=(10 ** 9, "b"))
        product = 1
        for strength in strengths:
            product *= strength
        self.assertEqual(sum_of(goods, stand), 10 ** 18 * (product // 999))


class SpreadAndSteepest(unittest.TestCase):
    def test_in_least_numbers(self):
        goods, stand = laid(path(6, 4), p=(5, "a"), q=(1, "b"))
        self.assertEqual(spread(goods, stand), (7, 12))
        self.assertEqual(steepest(goods, stand), (7, 12))
        goods, stand = laid(path(6, 10), p=(1, "a"), q=(15, "b"))
        self.assertEqual(spread(goods, stand), (4, 3))

    def test_whole_numbers(self):
        goods, stand = laid(path(2, 3), p=(8, "a"), q=(3, "b"))
        self.assertEqual(spread(goods, stand), (3, 1))

    def test_nought(self):
        goods, stand = laid(path(2, 3), p=(8, "a"), q=(12, "b"))
        self.assertEqual(spread(goods, stand), (0, 1))
        self.assertEqual(steepest(goods, stand), (0, 1))

    def test_heights_count_not_loads(self):
        goods, stand = laid(path(10, 1, 5), p=(10, "a"), q=(3, "b"), r=(10, "c"))
        self.assertEqual(spread(goods, stand), (2, 1))

    def test_one_hand(self):
        goods, stand = laid(path(7), p=(5, "a"))
        self.assertEqual(spread(goods, stand), (0, 1))
        self.assertEqual(steepest(goods, stand), (0, 1))

    def test_steepest_goes_over_ties_alone(self):
        goods, stand = laid(path(1, 1, 1), p=(9, "a"), q=(4, "b"))
        self.assertEqual(spread(goods, stand), (9, 1))
        self.assertEqual(steepest(goods, stand), (5, 1))

    def test_steepest_goes_either_way(self):
        for high, low in [("a", "b"), ("b", "a")]:
            with self.subTest(high=high, low=low):
                goods, stand = laid(path(3, 3), p=(20, high), q=(12, low))
                self.assertEqual(steepest(goods, stand), (8, 3))

    def test_steepest_without_ties(self):
        goods, stand = laid(Web([("a", 1), ("b", 1)], []), p=(9, "a"))
        self.assertEqual(spread(goods, stand), (9, 1))
        self.assertEqual(steepest(goods, stand), (0, 1))

    def test_ways_of_pieces_are_nothing_to_heights(self):
        goods, stand = laid(star(1, 1, 1), p=(9, "b", []), q=(2, "c", [("a", "b")]))
        self.assertEqual(spread(goods, stand), (9, 1))
        self.assertEqual(steepest(goods, stand), (9, 1))


class AgainstTheSecondReckoning(unittest.TestCase):
    def test_many(self):
        for seed in range(300):
            goods, stand = by_chance(seed)
            hands = goods.web.hands()
            with self.subTest(seed=seed):
                self.assertEqual(loads(goods, stand), {hand: oracle.load(goods, stand, hand) for hand in hands})
                self.assertEqual(heights(goods, stand),
                                 {hand: oracle.pair(oracle.height(goods, stand, hand)) for hand in hands})
                self.assertEqual(sum_of(goods, stand), oracle.sum_of(goods, stand))
                self.assertEqual(spread(goods, stand), oracle.spread(goods, stand))
                self.assertEqual(steepest(goods, stand), oracle.steepest(goods, stand))
                for hand in hands:
                    there = sorted(piece for piece in stand if stand[piece] == hand)
                    self.assertEqual(pieces_at(goods, stand, hand), there)


class WhatIsToldAndWhatIsHandedIn(unittest.TestCase):
    def test_what_is_told_is_the_askers_own(self):
        goods = small_goods()
        for function in [loads, heights]:
            first = function(goods, SMALL_STAND)
            expected = dict(first)
            first.clear()
            first["z"] = 1
            self.assertEqual(function(goods, SMALL_STAND), expected)
        told = pieces_at(goods, SMALL_STAND, "b")
        told.append("x")
        self.assertEqual(pieces_at(goods, SMALL_STAND, "b"), ["a"])

    def test_each_answer_is_a_new_one(self):
        goods = small_goods()
        for function in [loads, heights, spread, steepest, at_c]:
            self.assertIsNot(function(goods, SMALL_STAND), function(goods, SMALL_STAND))
        level = dict.fromkeys(SMALL_STAND, "a")
        self.assertIsNot(heights(goods, level)["b"], heights(goods, level)["c"])

    def test_what_is_handed_in_stays(self):
        goods = small_goods()
        stand = {"q": "c", "a": "b"}
        for function in OF_TWO + [at_c]:
            function(goods, stand)
        with self.assertRaises(NoHand):
            pieces_at(goods, stand, "x")
        self.assertEqual(list(stand.items()), [("q", "c"), ("a", "b")])
        self.assertEqual((goods.names(), goods.ways("q")), (["a", "q"], [("b", "c")]))

    def test_what_is_refused_stays(self):
        for stand in [{"q": "c"}, {"a": "b", "q": ["c"]}, [("a", "b")]]:
            kept = copy.deepcopy(stand)
            for function in OF_TWO + [at_c]:
                with self.assertRaises(NoStand):
                    function(small_goods(), stand)
            self.assertEqual(stand, kept)

    def test_the_next_answer_goes_by_what_the_stand_says_then(self):
        goods = small_goods()
        stand = dict(SMALL_STAND)
        before = loads(goods, stand)
        stand["a"] = "c"
        self.assertEqual(before, {"a": 0, "b": 5, "c": 4})
        self.assertEqual(loads(goods, stand), {"a": 0, "b": 0, "c": 9})
        self.assertEqual(heights(goods, stand)["c"], (3, 1))
        self.assertEqual(at_c(goods, stand), ["a", "q"])
        self.assertEqual(sum_of(goods, stand), 162)
        self.assertEqual(spread(goods, stand), (3, 1))
        self.assertEqual(steepest(goods, stand), (3, 1))
        stand["a"] = "d"
        for function in OF_TWO + [at_c]:
            with self.assertRaises(NoStand):
                function(goods, stand)
        stand["a"] = "b"
        self.assertEqual(loads(goods, stand), before)


if __name__ == "__main__":
    unittest.main()
