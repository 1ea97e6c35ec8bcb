"""[2], [3], [41] to [43]: papers of fewest moves."""

import copy
import itertools
import random
import unittest
from fractions import Fraction

import oracle
from evenpieces.errors import EvenError, NoFraction, NoMost, NoStand
from evenpieces.fewests import fewest_moves
from evenpieces.goods import Goods
from evenpieces.shuts import shut_fault, shut_of
from evenpieces.webs import Web
from oddments import EqualToAll, NO_FRACTIONS, NO_LISTS, NO_NAMES, NO_WHOLE_NUMBERS
from samples import SMALL_STAND, by_chance, laid, path, small_goods, two_hands, wrong_stands

NO_COUNTS = NO_WHOLE_NUMBERS + [101, 102, 1000, "100"]
FIRST = ("first",)


def small():
    """Two pieces on a path of three hands; behind 0, 1, 2, 3, 4 moves there are 1, 2, 3, 2, 1 stands."""
    return laid(path(1, 1, 1), p=(2, "a"), q=(3, "a"))


# The shut of small() by hand, for 1, 2, 3 and 4 moves.
LAYERS = [
    [(("a", "a"), 0)],
    [(("a", "b"), 1), (("b", "a"), 1)],
    [(("a", "c"), 2), (("b", "b"), 2), (("c", "a"), 2)],
    [(("b", "c"), 3), (("c", "b"), 3)],
    [(("c", "c"), 4)],
]


def first_layers(count):
    return sorted(sum(LAYERS[:count], []))


class Shuts(unittest.TestCase):
    def test_by_hand(self):
        goods, stand = small()
        for count in range(1, 6):
            with self.subTest(count=count):
                self.assertEqual(shut_of(goods, stand, (2, 1), count), first_layers(count))
        self.assertEqual(shut_of(goods, stand, (2, 1), 2), [(("a", "a"), 0), (("a", "b"), 1), (("b", "a"), 1)])

    def test_counts_beyond_all_layers(self):
        goods, stand = small()
        for count in [5, 6, 50, 99, 100]:
            self.assertEqual(shut_of(goods, stand, (2, 1), count), first_layers(5))

    def test_none_where_one_is_within_limit(self):
        goods, stand = small()
        # 5 apart at first, 3 behind one move where one is at b, 5 with both there.
        for limit, enough in [((5, 1), 1), ((6, 1), 1), ((9, 2), 2), ((4, 1), 2), ((3, 1), 2)]:
            with self.subTest(limit=limit):
                self.assertIsNone(shut_of(goods, stand, limit, enough))
                self.assertIsNone(shut_of(goods, stand, limit, 100))
                if enough > 1:
                    self.assertEqual(shut_of(goods, stand, limit, enough - 1), first_layers(enough - 1))
        self.assertEqual(shut_of(goods, stand, (299999999, 100000000), 100), first_layers(5))
        self.assertEqual(shut_of(goods, stand, (-5, 1), 100), first_layers(5))

    def test_no_pieces(self):
        goods = Goods(path(1, 2), [])
        self.assertEqual(shut_of(goods, {}, (-1, 1), 1), [((), 0)])
        self.assertEqual(shut_of(goods, {}, (-1, 1), 100), [((), 0)])
        self.assertIsNone(shut_of(goods, {}, (0, 1), 1))

    def test_ways(self):
        goods, stand = laid(path(1, 1, 1), p=(2, "a", []), q=(3, "b", [("b", "c")]))
        self.assertEqual(shut_of(goods, stand, (1, 1), 100), [(("a", "b"), 0), (("a", "c"), 1)])

    def test_kinds(self):
        told = shut_of(*small(), (2, 1), 3)
        self.assertIs(told.__class__, list)
        for hands, number in told:
            self.assertEqual((hands.__class__, number.__class__), (tuple, int))
        self.assertEqual(told, sorted(told))

    def test_against_the_second_reckoning(self):
        nones = 0
        for seed in range(150):
            goods, stand = by_chance(seed, hands=1 + seed % 4, pieces=1 + seed % 3)
            chance = random.Random(seed)
            spreads = [oracle.spread(goods, there) for there in sum(oracle.layers_of(goods, stand, 9), [])]
            for limit in [(0, 1), (-1, 2), chance.choice(spreads), spreads[0]]:
                for count in [1, 2, 3, 100]:
                    with self.subTest(seed=seed, limit=limit, count=count):
                        told = shut_of(goods, stand, limit, count)
                        self.assertEqual(told, oracle.shut_of(goods, stand, limit, count))
                        nones += told is None
        self.assertGreater(nones, 100)

    def test_just_three_thousand_stands_and_more(self):
        ties = list(zip("abcdefgh", "bcdefgh"))
        web = Web([(name, 1) for name in "abcdefgh"], ties)
        rows = [("p", 8), ("q", 5), ("r", 5), ("s", 5), ("t", 3)]
        goods = Goods(web, [(name, 1, ties[:many - 1]) for name, many in rows])
        stand = {name: "a" for name, many in rows}
        self.assertEqual(len(shut_of(goods, stand, (0, 1), 100)), 3000)
        self.assertEqual(len(shut_of(goods, stand, (0, 1), 21)), 2999)
        self.assertIsNone(shut_of(goods, stand, (5, 1), 100))
        # At most 12 moves lead to 3,001 stands, 11 to fewer.
        goods, stand = laid(path(*[1] * 8), p=(1, "a"), q=(1, "c"), r=(1, "c"), s=(1, "c"))
        self.assertLess(len(shut_of(goods, stand, (0, 1), 12)), 3000)
        for count in [13, 14, 100]:
            for limit in [(0, 1), (10 ** 9, 1)]:
                # The number of stands ahead of None.
                with self.assertRaises(NoMost):
                    shut_of(goods, stand, limit, count)
        self.assertIsNone(shut_of(goods, stand, (10 ** 9, 1), 12))

    def test_it_shuts_just_what_fewest_moves_tells(self):
        for seed in range(80):
            goods, stand = by_chance(seed, hands=3, pieces=2)
            told = fewest_moves(goods, stand, (1, 1), 3000)
            if told[0] == "moves":
                long = len(told[1])
                self.assertIsNone(shut_of(goods, stand, (1, 1), long + 1))
                if long:
                    self.assertIsNone(shut_fault(goods, stand, (1, 1), long, shut_of(goods, stand, (1, 1), long)))
            else:
                self.assertIsNone(shut_fault(goods, stand, (1, 1), 100, shut_of(goods, stand, (1, 1), 100)))


class FaultCase(unittest.TestCase):
    def each(self, count, rows, limit=(2, 1), start=None):
        goods, stand = start or small()
        for shut, fault in rows:
            with self.subTest(count=count, shut=shut):
                self.assertEqual(shut_fault(goods, stand, limit, count, shut), fault)


class FaultsOfForm(FaultCase):
    def test_no_list(self):
        for thing in NO_LISTS + [tuple(first_layers(1)), (("a", "a"), 0), {("a", "a"): 0}, "aa"]:
            self.each(1, [(thing, ("form", -1))])

    def test_no_such_tuple(self):
        things = [thing for thing in NO_LISTS if thing != ()] + [
            (), (("a", "a"),), (("a", "a"), 0, 0), [("a", "a"), 0], (["a", "a"], 0), ("aa", 0), ({"p": "a"}, 0),
            ((), 0), (("a",), 0), (("a", "a", "a"), 0), (("a", "d"), 0), (("d", "a"), 0), (("a", "p"), 0), (0, ("a", "a")),
            (("a", "c"), -1), (("a", "c"), True), (("a", "c"), False), (("a", "c"), "1"), (("a", "c"), None),
            (("a", "c"), [1]), (("a", "c"), 3), (("a", "c"), 4), (("a", "c"), 10 ** 30), (("a", "c"), EqualToAll()),
            (EqualToAll(), 1), (("a", EqualToAll()), 1), (("a", ["b"]), 1), (("a", None), 1), ((1, 2), 1), ([], 0),
            (None, 0), (("A", "a"), 1), (("a", "a "), 1), (("a", ("b",)), 1),
        ]
        for thing in things:
            whole = first_layers(3)
            for place in [0, 1, 3, len(whole) - 1]:
                shut = whole[:place] + [thing] + whole[place + 1:]
                self.each(3, [(shut, ("form", place))])
            self.each(3, [(whole + [thing], ("form", 6)), ([thing], ("form", 0)), ([thing, thing], ("form", 0))])

    def test_strange_hands(self):
        for hand in NO_NAMES + ["d", "p", "aa"]:
            for hands in [(hand, "a"), ("a", hand), (hand, hand)]:
                self.each(2, [([(("a", "a"), 0), (hands, 1)], ("form", 1))])

    def test_the_hands_of_one_ahead(self):
        whole = first_layers(3)
        for one, other in itertools.combinations(range(6), 2):
            for number in [0, 1, 2]:
                shut = whole[:other] + [(whole[one][0], number)] + whole[other:]
                self.each(3, [(shut, ("form", other))])
        self.each(1, [([(("a", "a"), 0), (("a", "a"), 0)], ("form", 1))])

    def test_numbers_not_less_than_count(self):
        for count in [1, 2, 5, 100]:
            self.each(count, [([(("a", "a"), count)], ("form", 0)), ([(("a", "a"), count + 1)], ("form", 0))])
            if count > 1:
                self.each(count, [([(("a", "a"), count - 1)], FIRST)])

    def test_no_pieces(self):
        start = (Goods(path(1, 2), []), {})
        self.each(1, [([((), 0)], None), ([], FIRST), ([((), 1)], ("form", 0)), ([(("a",), 0)], ("form", 0)),
                      ([((), 0), ((), 0)], ("form", 1))], limit=(-1, 1), start=start)

    def test_the_first_of_several_forms(self):
        self.each(3, [([None, None], ("form", 0)), ([(("a", "a"), 0), None, 5], ("form", 1)),
                      ([(("a", "a"), 0), (("a", "b"), 3), (("a", "a"), 0)], ("form", 1)),
                      ([(("a", "a"), 0), (("a", "a"), 0), (("a", "b"), 3)], ("form", 1))])


class OtherFaults(FaultCase):
    def test_no_fault(self):
        for count in range(1, 6):
            self.each(count, [(first_layers(count), None)])
        self.each(100, [(first_layers(5), None)])

    def test_first(self):
        self.each(1, [([], FIRST), ([(("a", "b"), 0)], FIRST)])
        self.each(3, [([], FIRST), (first_layers(3)[1:], FIRST), ([(("a", "a"), 1)] + first_layers(3)[1:], FIRST),
                      ([(("a", "a"), 2)] + first_layers(3)[1:], FIRST), ([(("b", "a"), 0)], FIRST)])

    def test_first_stands_anywhere(self):
        turned = list(reversed(first_layers(3)))
        self.each(3, [(turned, None), (turned[:-1], FIRST)])

    def test_even(self):
        # By the limit 3 all stands with the pieces at two hands are within it.
        whole = first_layers(3)
        self.assertEqual([place for place, entry in enumerate(whole)
                          if len(set(entry[0])) == 2], [1, 2, 3, 5])
        self.each(3, [(whole, ("even", 1))], limit=(3, 1))
        self.each(3, [([whole[0], whole[4]] + whole[1:4] + whole[5:], ("even", 2))], limit=(3, 1))
        self.each(2, [(first_layers(2), ("even", 1))], limit=(3, 1))
        self.each(1, [(first_layers(1), None)], limit=(3, 1))
        self.each(1, [(first_layers(1), ("even", 0))], limit=(5, 1))
        self.each(1, [(first_layers(1), None)], limit=(499999999, 100000000))

    def test_even_at_the_last_place_and_of_stands_that_need_not_be_there(self):
        self.each(1, [([(("a", "a"), 0), (("a", "c"), 0)], ("even", 1)),
                      ([(("a", "a"), 0), (("c", "c"), 0)], None),
                      ([(("a", "a"), 0), (("c", "c"), 0), (("b", "c"), 0)], ("even", 2))], limit=(3, 1))

    def test_a_stand_that_is_missing(self):
        whole = first_layers(4)
        for place, (hands, number) in enumerate(whole):
            if number > 0:
                near = [k for k, (those, other) in enumerate(whole)
                        if sum(abs(ord(a) - ord(b)) for a, b in zip(those, hands)) == 1 and other < 3]
                shut = whole[:place] + whole[place + 1:]
                expected = min(k - (k > place) for k in near)
                self.each(4, [(shut, ("open", expected))])

    def test_a_number_greater_by_more_than_one(self):
        whole = first_layers(4)
        self.assertEqual(whole[1], (("a", "b"), 1))
        self.each(4, [([whole[0], (("a", "b"), 2)] + whole[2:], ("open", 0)),
                      ([whole[0], (("a", "b"), 3)] + whole[2:], ("open", 0))])
        # Numbers that are less than shut_of's do not hurt, as long as all that is near to them is there.
        self.each(4, [([whole[0], (("a", "b"), 0)] + whole[2:], ("open", 1))])
        self.each(100, [([(hands, 0) for hands, number in first_layers(5)], None),
                        ([(hands, number // 2) for hands, number in first_layers(5)], None),
                        ([(hands, 2 * number) for hands, number in first_layers(5)], ("open", 0)),
                        ([(hands, 99 if number else 0) for hands, number in first_layers(5)], ("open", 0))])

    def test_other_numbers(self):
        self.each(3, [([(hands, 2 if number else 0) for hands, number in first_layers(5)], ("open", 0)),
                      ([(hands, min(number, 2)) for hands, number in first_layers(5)], None),
                      ([(hands, min(number, 1)) for hands, number in first_layers(5)], None)])
        self.each(1, [([(hands, 0) for hands, number in first_layers(5)], None)])

    def test_the_number_before_the_last_and_the_last(self):
        # With the number count - 1 nothing behind it is asked for; with one less it is.
        self.each(2, [(first_layers(2), None), (first_layers(2)[:2], ("open", 0))])
        self.each(3, [(first_layers(2), ("open", 1)), (first_layers(1), ("open", 0))])

    def test_other_orders(self):
        whole = first_layers(3)
        for seed in range(30):
            shut = random.Random(seed).sample(whole, len(whole))
            self.each(3, [(shut, None)])
            place = shut.index((("a", "a"), 0))
            without = [(hands, number) for hands, number in shut if hands != ("b", "a")]
            # Missing is what a move leads to from a-a; b-b and c-a with the number 2 ask for nothing.
            self.each(3, [(without, ("open", place - (shut.index((("b", "a"), 1)) < place)))])

    def test_more_stands_than_need_be(self):
        self.each(2, [(first_layers(2) + [(("c", "c"), 1)], None), (first_layers(2) + [(("c", "c"), 0)], ("open", 3))])

    def test_pieces_that_may_not_go(self):
        start = laid(path(1, 1, 1), p=(2, "a", []), q=(3, "a", [("a", "b")]))
        self.each(100, [([(("a", "a"), 0), (("a", "b"), 1)], None), ([(("a", "a"), 0)], ("open", 0))], start=start)

    def test_two_faults_at_once(self):
        self.each(3, [
            # Form and all else.
            ([None], ("form", 0)), ([(("a", "b"), 1), None], ("form", 1)), ([(("a", "a"), 0), None], ("form", 1)),
            ([(("a", "c"), 0), 0], ("form", 1)),
        ], limit=(4, 1))
        self.each(3, [
            # First, and even or open ones.
            ([(("a", "c"), 0)], FIRST), ([(("a", "b"), 1)], FIRST), ([(("a", "a"), 1), (("a", "c"), 0)], FIRST),
            # Open at 0, even at 1; the other way round; and both at one place.
            ([(("a", "a"), 0), (("a", "b"), 1)], ("open", 0)), ([(("a", "b"), 1), (("a", "a"), 0)], ("even", 0)),
            ([(("a", "c"), 0), (("a", "a"), 0)], ("even", 0)), ([(("c", "c"), 0), (("a", "a"), 0)], ("open", 0)),
        ], limit=(4, 1))
        self.each(3, [([(("a", "a"), 0)], ("even", 0))], limit=(5, 1))
        self.each(3, [([(("a", "a"), 0)], ("open", 0))], limit=(4, 1))

    def test_against_the_second_reckoning(self):
        seen = set()
        for seed in range(250):
            goods, stand = by_chance(seed, hands=2 + seed % 3, pieces=1 + seed % 3)
            chance = random.Random(seed)
            count = chance.choice([1, 2, 3, 4, 100])
            limit = chance.choice([(-1, 1), (0, 1), (1, 1), (-1, 1)])
            layers = oracle.layers_of(goods, stand, count - 1)
            shut = [(oracle.hands_of(there), number) for number, layer in enumerate(layers) for there in layer]
            if chance.random() < 0.5:
                chance.shuffle(shut)
            for change in range(chance.randint(0, 2)):
                place = chance.randrange(len(shut))
                shut[place] = (shut[place][0], chance.randrange(min(count, 5)))
            if chance.random() < 0.4:
                del shut[chance.randrange(len(shut))]
            with self.subTest(seed=seed, count=count, limit=limit, shut=shut):
                fault = shut_fault(goods, stand, limit, count, shut)
                self.assertEqual(fault, oracle.shut_fault(goods, stand, limit, count, shut))
            seen.add(fault and fault[0])
        self.assertEqual(seen, {None, "first", "even", "open"})

    def test_where_there_is_no_fault_no_row_of_fewer_moves_comes_to_limit(self):
        met = 0
        for seed in range(300):
            goods, stand = by_chance(seed, hands=3, pieces=2)
            chance = random.Random(seed)
            count = chance.choice([1, 2, 3])
            limit = (chance.randint(0, 6), 1)
            stands = [dict(zip(goods.names(), hands)) for hands in itertools.product("abc", repeat=2)]
            shut = [(oracle.hands_of(there), chance.randrange(count)) for there in stands if chance.random() < 0.8]
            shut = [entry for entry in shut if entry[0] != oracle.hands_of(stand)] + [(oracle.hands_of(stand), 0)]
            if shut_fault(goods, stand, limit, count, shut) is None:
                near = sum(oracle.layers_of(goods, stand, count - 1), [])
                for there in near:
                    self.assertGreater(Fraction(*oracle.spread(goods, there)), Fraction(*limit))
                met += len(near) > 1
        self.assertGreater(met, 5)


class Refusals(unittest.TestCase):
    def refused(self, refusal, *given):
        for function, more in [(shut_of, []), (shut_fault, [[]]), (shut_fault, [None])]:
            with self.subTest(function=function, given=given), self.assertRaises(refusal) as caught:
                function(small_goods(), *given, *more)
            self.assertIsInstance(caught.exception, EvenError)
            self.assertIs(caught.exception.__class__, refusal)

    def test_no_fraction(self):
        for limit in NO_FRACTIONS:
            self.refused(NoFraction, SMALL_STAND, limit, 1)

    def test_no_stand(self):
        for stand in wrong_stands():
            self.refused(NoStand, stand, (1, 2), 1)

    def test_no_most(self):
        for count in NO_COUNTS:
            self.refused(NoMost, SMALL_STAND, (1, 2), count)
            # Also where the spread is within limit.
            self.refused(NoMost, SMALL_STAND, (10 ** 12, 1), count)

    def test_their_order(self):
        for stand in [None, {}, [], {"a": "b", "q": "x"}]:
            for count in [0, -1, 101, True, "1", None]:
                for limit in [None, (2, 4), (1, 0), "1/2", (True, 1), (0, 2)]:
                    self.refused(NoFraction, stand, limit, count)
                    self.refused(NoFraction, stand, limit, 1)
                    self.refused(NoFraction, SMALL_STAND, limit, count)
                self.refused(NoStand, stand, (1, 2), count)

    def test_a_fault_is_told_of_more_than_three_thousand_stands(self):
        goods = Goods(two_hands(), [(name, 1, None) for name in "abcdefghijklmnopqrstuvwxyz"])
        stand = {name: "a" for name in goods.names()}
        shut = [(tuple("a" * 26), 0)]
        self.assertEqual(shut_fault(goods, stand, (0, 1), 100, shut), ("open", 0))
        self.assertIsNone(shut_fault(goods, stand, (0, 1), 1, shut))
        with self.assertRaises(NoMost):
            shut_of(goods, stand, (0, 1), 100)


class WhatIsToldAndWhatIsHandedIn(unittest.TestCase):
    def test_what_is_told_is_the_askers_own(self):
        goods, stand = small()
        told = shut_of(goods, stand, (2, 1), 3)
        told.clear()
        self.assertEqual(shut_of(goods, stand, (2, 1), 3), first_layers(3))
        self.assertIsNot(shut_of(goods, stand, (2, 1), 3)[0], shut_of(goods, stand, (2, 1), 3)[0])
        for shut in [None, [None], [], first_layers(2)]:
            first, second = [shut_fault(goods, stand, (2, 1), 3, shut) for time in range(2)]
            self.assertEqual(first, second)
            self.assertIs(first.__class__, tuple)
            self.assertIsNot(first, second)

    def test_what_is_handed_in_stays(self):
        goods, stand = laid(path(1, 1, 1), q=(3, "a"), p=(2, "a"))
        kept = copy.deepcopy(stand)
        shut = first_layers(3)
        self.assertIsNone(shut_fault(goods, stand, (2, 1), 3, shut))
        self.assertEqual(shut, first_layers(3))
        self.assertEqual(list(stand.items()), list(kept.items()))


if __name__ == "__main__":
    unittest.main()
