"""[2], [3], [29] to [34]: yards, in which pieces come and are done."""

import copy
import random
import unittest
from fractions import Fraction

import oracle
from evenpieces.errors import EvenError, NoGoods, NoHand, NoMoment, NoPiece, NoRule
from evenpieces.goods import Goods
from evenpieces.rules import moves_of
from evenpieces.stands import heights, loads, spread
from evenpieces.webs import Web
from evenpieces.yards import Yard
from oddments import EqualToAll, NO_LISTS, NO_NAMES, NO_WEIGHTS
from oracle import CALM, RULES
from samples import NO_MOMENTS, NO_RULES, path, piece_names, star, two_hands

WRONG_WAYS = [thing for thing in NO_LISTS if thing is not None] + [
    [("a",)], [("a", "b", "c")], [("a", "a")], [("a", "c")], [("a", "x")], [("x", "y")], [("a", "b"), ("b", "a")],
    [("a", "b"), ("a", "b")], [["a", "b"]], ["ab"], [None], [("a", None)], [("a", "b"), ("a", "c")], [("b", "B")],
    (("a", "b"),), [("a", EqualToAll())], [EqualToAll()],
]


def seen(yard):
    """All that a yard tells of itself."""
    goods = yard.goods()
    pieces = [(name, goods.weight(name), goods.ways(name)) for name in goods.names()]
    return (yard.rule, yard.moment, pieces, yard.stand(), yard.loads(), yard.heights(), yard.spread(), yard.at_rest(),
            yard.bound(), yard.log())


def filled(rule, *pieces, web=None):
    """A yard to which pieces of these (name, weight, hand) and perhaps ways have come."""
    yard = Yard(web or path(1, 1, 1), rule)
    for piece in pieces:
        yard.come(*piece)
    return yard


class YardCase(unittest.TestCase):
    def refused(self, refusal, yard, deed, *given, **named):
        ahead = seen(yard)
        with self.subTest(given=given, named=named), self.assertRaises(refusal) as caught:
            deed(*given, **named)
        self.assertIsInstance(caught.exception, EvenError)
        self.assertIs(caught.exception.__class__, refusal)
        self.assertEqual(seen(yard), ahead)


class NewYards(YardCase):
    def test_without_pieces(self):
        web = path(2, 1, 3)
        for rule in RULES:
            yard = Yard(web, rule)
            self.assertIs(yard.web, web)
            self.assertEqual((yard.rule, yard.moment), (rule, 0))
            self.assertIsInstance(yard.goods(), Goods)
            self.assertIs(yard.goods().web, web)
            self.assertEqual(yard.goods().names(), [])
            self.assertEqual(yard.stand(), {})
            self.assertEqual(yard.loads(), {"a": 0, "b": 0, "c": 0})
            self.assertEqual(yard.heights(), {"a": (0, 1), "b": (0, 1), "c": (0, 1)})
            self.assertEqual((yard.spread(), yard.bound()), ((0, 1), (0, 1)))
            self.assertIs(yard.at_rest(), True)
            self.assertEqual(yard.log(), [])

    def test_no_rule(self):
        for rule in NO_RULES:
            with self.subTest(rule=rule), self.assertRaises(NoRule):
                Yard(two_hands(), rule)

    def test_ticks_of_a_yard_without_pieces(self):
        for rule in RULES:
            yard = Yard(path(2, 1, 3), rule)
            self.assertEqual(yard.tick(5), [])
            self.assertEqual((yard.moment, yard.bound(), yard.log()), (5, (0, 1), []))

    def test_two_yards_of_one_web(self):
        web = two_hands()
        one, other = Yard(web, "turns high"), Yard(web, "turns high")
        ahead = seen(other)
        one.come("p", 3, "a")
        one.tick(3)
        self.assertEqual(seen(other), ahead)
        other.come("p", 5, "b")
        self.assertEqual(one.goods().weight("p"), 3)
        other.go("p")
        self.assertEqual(one.goods().names(), ["p"])


class Comings(YardCase):
    def test_pieces_come(self):
        yard = Yard(path(1, 2, 4), "least one fall")
        self.assertIsNone(yard.come("q", 6, "b"))
        self.assertIsNone(yard.come("p", 10 ** 9, "c"))
        self.assertIsNone(yard.come("abcdefgh", 1, "b"))
        goods = yard.goods()
        self.assertEqual(goods.names(), ["abcdefgh", "p", "q"])
        self.assertEqual([goods.weight(name) for name in goods.names()], [1, 10 ** 9, 6])
        self.assertTrue(goods.are_free())
        self.assertEqual(list(yard.stand().items()), [("abcdefgh", "b"), ("p", "c"), ("q", "b")])
        self.assertEqual(list(yard.loads().items()), [("a", 0), ("b", 7), ("c", 10 ** 9)])
        self.assertEqual(list(yard.heights().items()), [("a", (0, 1)), ("b", (7, 2)), ("c", (25 * 10 ** 7, 1))])
        self.assertEqual(yard.spread(), (25 * 10 ** 7, 1))
        self.assertIs(yard.at_rest(), False)
        self.assertEqual(yard.moment, 0)

    def test_ways_by_place_and_by_name(self):
        yard = Yard(path(1, 1, 1), "below all high")
        yard.come("p", 1, "a", [("b", "a")])
        yard.come("q", 1, "a", ways=[("c", "b"), ("a", "b")])
        yard.come("r", 1, "a", ways=[])
        yard.come("s", 1, "a", [])
        yard.come("t", 1, "a", None)
        yard.come("u", 1, "a", ways=None)
        goods = yard.goods()
        self.assertEqual([goods.ways(name) for name in "pqrstu"],
                         [[("a", "b")], [("a", "b"), ("b", "c")], [], [], None, None])

    def test_ways_are_kept_to(self):
        yard = filled("least one fall", ("p", 1, "a", [("c", "b")]), ("q", 9, "a", []), ("r", 2, "a", [("a", "b")]))
        self.assertEqual(yard.tick(5), [("r", "a", "b")])
        self.assertTrue(yard.at_rest())

    def test_what_was_handed_in_and_changed_changes_nothing(self):
        yard = Yard(path(1, 1, 1), "below all high")
        ways = [("b", "a")]
        yard.come("p", 1, "a", ways)
        ways.append(("b", "c"))
        self.assertEqual(yard.goods().ways("p"), [("a", "b")])
        self.assertEqual(ways, [("b", "a"), ("b", "c")])

    def test_names_weights_and_ways_that_are_none(self):
        yard = filled("turns fall", ("a", 5, "a"), ("b", 3, "b"))
        for name in NO_NAMES:
            self.refused(NoGoods, yard, yard.come, name, 1, "a")
        for weight in NO_WEIGHTS:
            self.refused(NoGoods, yard, yard.come, "p", weight, "a")
        for ways in WRONG_WAYS:
            self.refused(NoGoods, yard, yard.come, "p", 1, "a", ways)
            self.refused(NoGoods, yard, yard.come, "p", 1, "a", ways=ways)

    def test_a_name_that_is_there(self):
        yard = filled("turns fall", ("p", 5, "a"), ("q", 3, "b"))
        for name in ["p", "q"]:
            for weight, hand, ways in [(5, "a", None), (1, "b", []), (3, "c", [("a", "b")])]:
                self.refused(NoGoods, yard, yard.come, name, weight, hand, ways)

    def test_no_hand(self):
        yard = filled("turns fall", ("p", 5, "a"))
        for hand in NO_NAMES + ["d", "p", "ab", "aa"]:
            self.refused(NoHand, yard, yard.come, "q", 1, hand)
            self.refused(NoHand, yard, yard.come, "q", 1, hand, [])

    def test_no_goods_ahead_of_no_hand(self):
        yard = filled("turns fall", ("p", 5, "a"))
        for hand in [None, "d", "", [], 1, True]:
            for name, weight, ways in [("P", 1, None), (None, 1, None), ("q", 0, None), ("q", True, None),
                                       ("q", 1, [("a", "c")]), ("q", 1, ()), ("p", 1, None), ("p", 0, []), ([], {}, 1)]:
                self.refused(NoGoods, yard, yard.come, name, weight, hand, ways)

    def test_thirty_pieces(self):
        names = piece_names(30)
        yard = filled("turns fall", *[(name, 7, "a") for name in names])
        self.assertEqual(yard.goods().names(), sorted(names))
        self.refused(NoGoods, yard, yard.come, "more", 7, "a")
        self.refused(NoGoods, yard, yard.come, "more", 7, "b", [])
        for hand in ["d", None, [], "", EqualToAll()]:
            self.refused(NoHand, yard, yard.come, "more", 7, hand)
            self.refused(NoGoods, yard, yard.come, "more", 0, hand)
            self.refused(NoGoods, yard, yard.come, names[0], 7, hand)
        yard.tick(3)
        self.refused(NoGoods, yard, yard.come, "more", 7, "a")
        yard.go(names[3])
        yard.come("more", 7, "c")
        self.assertEqual(yard.goods().names(), sorted(names[:3] + names[4:] + ["more"]))
        self.refused(NoGoods, yard, yard.come, names[3], 7, "a")

    def test_more_than_thirty_one_behind_the_other(self):
        yard = Yard(two_hands(), "turns fall")
        for time in range(40):
            yard.come("p", 1 + time, "a")
            yard.go("p")
        self.assertEqual((len(yard.log()), yard.goods().names()), (80, []))


class Goings(YardCase):
    def test_pieces_go(self):
        yard = filled("turns fall", ("p", 5, "a"), ("q", 3, "b"), ("r", 2, "b"))
        self.assertIsNone(yard.go("q"))
        self.assertEqual(yard.goods().names(), ["p", "r"])
        self.assertEqual(yard.stand(), {"p": "a", "r": "b"})
        self.assertEqual(yard.loads(), {"a": 5, "b": 2, "c": 0})
        yard.go("r")
        yard.go("p")
        self.assertEqual((yard.stand(), yard.loads()), ({}, {"a": 0, "b": 0, "c": 0}))

    def test_a_piece_comes_again(self):
        yard = filled("turns fall", ("p", 5, "a", []))
        yard.go("p")
        yard.come("p", 8, "c", [("b", "c")])
        self.assertEqual((yard.goods().weight("p"), yard.goods().ways("p"), yard.stand()), (8, [("b", "c")], {"p": "c"}))
        yard.go("p")
        yard.come("p", 8, "b")
        self.assertEqual((yard.goods().ways("p"), yard.stand()), (None, {"p": "b"}))

    def test_no_piece(self):
        yard = filled("turns fall", ("a", 5, "a"), ("q", 3, "b"))
        yard.go("q")
        for name in NO_NAMES + ["q", "b", "c", "aa", "p", (), ("a",), ["a"], {"a": 1}]:
            self.refused(NoPiece, yard, yard.go, name)
        yard.go("a")
        self.refused(NoPiece, yard, yard.go, "a")


class Ticks(YardCase):
    def test_no_moments(self):
        for rule in RULES:
            yard = filled(rule, ("p", 5, "a"), ("q", 3, "a"))
            ahead = seen(yard)
            self.assertEqual(yard.tick(0), [])
            self.assertEqual(seen(yard), ahead)

    def test_one_moment_and_several(self):
        yard = filled("least one fall", ("p", 1, "a"), ("q", 2, "a"), ("r", 1, "a"))
        self.assertEqual(yard.tick(1), [("q", "a", "b")])
        self.assertEqual((yard.moment, yard.stand()), (1, {"p": "a", "q": "b", "r": "a"}))
        # Now a, b and c have 2, 2, 0: b gives to c nothing, as the piece of 2 does not make the sum fall.
        self.assertEqual(yard.tick(2), [])
        self.assertEqual(yard.moment, 3)
        yard.go("q")
        self.assertEqual(yard.tick(3), [("p", "a", "b")])
        self.assertEqual((yard.moment, yard.stand()), (6, {"p": "b", "r": "a"}))

    def test_several_moves_a_moment(self):
        yard = filled("below all high", ("p", 4, "b"), ("q", 3, "b"), ("r", 1, "a"), web=path(1, 1, 1))
        # b has 7, a 1, c 0: b gives to c first, then to a.
        self.assertEqual(yard.tick(1), [("p", "b", "c"), ("q", "b", "a")])
        self.assertEqual(yard.tick(1), [("q", "a", "b"), ("p", "c", "b")])
        self.assertEqual(yard.log()[3:], [("move", 0, "p", "b", "c"), ("move", 0, "q", "b", "a"),
                                          ("move", 1, "q", "a", "b"), ("move", 1, "p", "c", "b")])

    def test_the_row_whose_turn_it_is_goes_by_the_moment_of_the_yard(self):
        # The rows are a-b and b-c.
        yard = Yard(path(1, 1, 1), "turns high")
        yard.tick(1)
        yard.come("p", 1, "b")
        self.assertEqual(yard.tick(1), [("p", "b", "c")])
        self.assertEqual(yard.tick(4), [("p", "c", "b"), ("p", "b", "a")])
        self.assertEqual(yard.moment, 6)

    def test_the_moment_counts_on(self):
        yard = Yard(two_hands(), "shares all")
        for count, deed in enumerate([lambda: yard.come("p", 3, "a"), lambda: yard.come("q", 3, "a"),
                                      lambda: yard.go("p"), lambda: yard.come("p", 9, "b"), lambda: yard.go("q")]):
            deed()
            self.assertEqual(yard.moment, 7 * count)
            yard.tick(7)
            self.assertEqual(yard.moment, 7 * count + 7)

    def test_no_moment(self):
        for rule in ["turns high", "least one fall"]:
            yard = filled(rule, ("p", 5, "a"), ("q", 3, "a"))
            for moments in NO_MOMENTS:
                self.refused(NoMoment, yard, yard.tick, moments)
        yard = Yard(two_hands(), "shares all")
        for moments in NO_MOMENTS:
            self.refused(NoMoment, yard, yard.tick, moments)

    def test_three_thousand_moments(self):
        yard = filled("turns high", ("p", 1, "a"))
        moves = yard.tick(3000)
        # Each round of six moments has four moves.
        self.assertEqual((len(moves), moves[:4]), (2000, [("p", "a", "b"), ("p", "b", "c"), ("p", "c", "b"),
                                                          ("p", "b", "a")]))
        self.assertEqual(yard.log()[-1], ("move", 2998, "p", "b", "a"))

    def test_as_moves_of_tells_them(self):
        for rule in RULES:
            for seed in range(6):
                chance = random.Random(seed)
                yard = Yard(star(1, 2, 1, 3), rule)
                for name in piece_names(chance.randint(1, 9)):
                    yard.come(name, chance.randint(1, 9), chance.choice("abcd"))
                yard.tick(3)
                goods, stand, moves = yard.goods(), yard.stand(), []
                for moment in range(3, 8):
                    made = oracle.moves_of(goods, stand, rule, moment)
                    self.assertEqual(made, moves_of(goods, stand, rule, moment))
                    stand.update({piece: other for piece, one, other in made})
                    moves += made
                with self.subTest(rule=rule, seed=seed):
                    self.assertEqual(yard.tick(5), moves)
                    self.assertEqual((yard.stand(), yard.moment), (stand, 8))


class WhatAYardTells(YardCase):
    def test_goods_that_were_told_stay(self):
        yard = filled("least one fall", ("p", 5, "a", [("a", "b")]), ("q", 3, "a"))
        goods, stand = yard.goods(), yard.stand()
        yard.tick(2)
        yard.go("p")
        yard.come("p", 9, "c")
        yard.come("r", 1, "c")
        self.assertEqual(goods.names(), ["p", "q"])
        self.assertEqual((goods.weight("p"), goods.ways("p")), (5, [("a", "b")]))
        self.assertEqual(stand, {"p": "a", "q": "a"})
        self.assertEqual(loads(goods, stand), {"a": 8, "b": 0, "c": 0})

    def test_what_was_told_and_changed_changes_nothing(self):
        yard = filled("below all high", ("p", 5, "a", [("a", "b")]), ("q", 3, "a"))
        moves = yard.tick(2)
        ahead = seen(yard)
        moves.clear()
        yard.stand().clear()
        yard.stand()["p"] = "c"
        yard.loads().clear()
        yard.heights().clear()
        yard.log().clear()
        yard.log().append(("go", "p", "a"))
        yard.goods().names().clear()
        yard.goods().ways("p").clear()
        self.assertEqual(seen(yard), ahead)
        yard.tick(1)
        yard.go("p")

    def test_each_answer_is_a_new_one(self):
        yard = filled("below all high", ("p", 5, "a"))
        for tell in [yard.stand, yard.loads, yard.heights, yard.log, yard.spread, yard.bound]:
            self.assertEqual(tell(), tell())
            self.assertIsNot(tell(), tell())
        self.assertIsNot(yard.log()[0], yard.log()[0])
        self.assertIsNot(yard.tick(0), yard.tick(0))

    def test_told_as_by_the_functions(self):
        for rule in RULES:
            chance = random.Random(rule)
            yard = Yard(path(3, 1, 2, 7), rule)
            for step in range(12):
                if chance.random() < 0.7 or not yard.stand():
                    yard.come(piece_names(12)[step], chance.randint(1, 99), chance.choice("abcd"))
                else:
                    yard.go(chance.choice(list(yard.stand())))
                yard.tick(chance.randint(0, 2))
                goods, stand = yard.goods(), yard.stand()
                with self.subTest(rule=rule, step=step):
                    self.assertEqual(list(stand), goods.names())
                    self.assertEqual(list(yard.loads().items()), list(loads(goods, stand).items()))
                    self.assertEqual(list(yard.heights().items()), list(heights(goods, stand).items()))
                    self.assertEqual(yard.spread(), spread(goods, stand))
                    self.assertEqual(yard.spread(), oracle.spread(goods, stand))
                    self.assertIs(yard.at_rest(), oracle.at_rest(goods, stand, rule))

    def test_kinds(self):
        yard = filled("turns high", ("p", 5, "a"))
        self.assertIs(yard.tick(1).__class__, list)
        self.assertIs(yard.tick(1)[0].__class__, tuple)
        self.assertIs(yard.log().__class__, list)
        self.assertEqual({deed.__class__ for deed in yard.log()}, {tuple})
        self.assertEqual([tell().__class__ for tell in [yard.stand, yard.loads, yard.heights, yard.spread, yard.bound]],
                         [dict, dict, dict, tuple, tuple])
        self.assertIs(yard.moment.__class__, int)

    def test_a_yard_without_ties(self):
        for rule in RULES:
            yard = filled(rule, ("p", 5, "a"), web=Web([("a", 1), ("b", 1)], []))
            self.assertTrue(yard.at_rest())
            self.assertEqual(yard.tick(3), [])
            self.assertEqual(yard.bound(), (5, 1))


class Bounds(YardCase):
    def test_what_is_added(self):
        yard = Yard(path(2, 3, 4), "least one calm")
        self.assertEqual(yard.bound(), (0, 1))
        yard.come("p", 5, "a")
        self.assertEqual(yard.bound(), (5, 2))
        yard.come("q", 1, "b")
        self.assertEqual(yard.bound(), (17, 6))
        yard.come("r", 2, "c", [])
        self.assertEqual(yard.bound(), (10, 3))
        yard.go("q")
        self.assertEqual(yard.bound(), (11, 3))
        yard.come("q", 4, "c")
        self.assertEqual(yard.bound(), (14, 3))

    def test_at_the_going_the_hand_counts_where_the_piece_is_then(self):
        yard = filled("least one fall", ("p", 5, "a"), ("q", 5, "a"), web=two_hands(1, 5))
        self.assertEqual(yard.bound(), (10, 1))
        self.assertEqual(yard.tick(1), [("p", "a", "b")])
        self.assertEqual(yard.bound(), (10, 1))
        yard.go("p")
        self.assertEqual(yard.bound(), (11, 1))
        yard.go("q")
        self.assertEqual(yard.bound(), (16, 1))

    def test_at_rest_it_becomes_the_spread(self):
        yard = filled("least one fall", ("p", 5, "a"), ("q", 5, "a"), web=two_hands(1, 5))
        # 10 and 0: the first piece goes, and it is 5 and 1; then the other one, and it is 0 and 2.
        self.assertEqual([yard.tick(1), yard.bound()], [[("p", "a", "b")], (10, 1)])
        self.assertEqual([yard.tick(1), yard.bound(), yard.spread()], [[("q", "a", "b")], (2, 1), (2, 1)])
        yard.go("p")
        self.assertEqual((yard.bound(), yard.spread()), ((3, 1), (1, 1)))
        # At rest already: a moment without a move makes it the spread, too.
        self.assertEqual([yard.tick(1), yard.bound()], [[], (1, 1)])

    def test_within_one_tick(self):
        yard = filled("least one fall", ("p", 5, "a"), ("q", 5, "a"), web=two_hands(1, 5))
        yard.tick(2)
        self.assertEqual(yard.bound(), (2, 1))
        yard = filled("least one fall", ("p", 5, "a"), ("q", 5, "a"), web=two_hands(1, 5))
        yard.tick(9)
        self.assertEqual(yard.bound(), (2, 1))

    def test_no_moments(self):
        yard = filled("least one fall", ("p", 1, "a"), ("q", 1, "b"), web=two_hands())
        self.assertTrue(yard.at_rest())
        yard.tick(0)
        self.assertEqual((yard.bound(), yard.spread()), ((2, 1), (0, 1)))
        yard.tick(1)
        self.assertEqual(yard.bound(), (0, 1))

    def test_where_it_never_rests_the_bound_stays(self):
        yard = filled("turns high", ("p", 1, "a"))
        yard.tick(50)
        self.assertEqual(yard.bound(), (1, 1))

    def test_a_moment_without_moves_is_no_rest_by_turns(self):
        # At moment 0 the row is a-b, and nothing goes along it.
        yard = filled("turns fall", *[(name, 1, "c") for name in "pqrs"])
        self.assertEqual([yard.tick(1), yard.bound()], [[], (4, 1)])
        self.assertEqual([yard.tick(1), yard.bound()], [[("p", "c", "b")], (4, 1)])
        self.assertEqual([yard.tick(1), yard.bound()], [[], (4, 1)])
        self.assertEqual([yard.tick(1), yard.bound()], [[("q", "c", "b")], (4, 1)])
        self.assertEqual([yard.tick(1), yard.bound()], [[("p", "b", "a")], (1, 1)])

    def test_it_may_grow_above_the_spread_of_a_rest_and_sink_again(self):
        yard = Yard(path(1, 1), "shares all")
        for time in range(5):
            yard.come("p", 4, "a")
            yard.go("p")
        self.assertEqual((yard.bound(), yard.spread()), ((40, 1), (0, 1)))
        yard.tick(1)
        self.assertEqual(yard.bound(), (0, 1))

    def test_great_numbers(self):
        yard = Yard(path(997, 991, 983, 977), "turns calm")
        expected = Fraction(0)
        for name, hand, strength in [("p", "a", 997), ("q", "b", 991), ("r", "c", 983), ("s", "d", 977)]:
            yard.come(name, 10 ** 9, hand)
            expected += Fraction(10 ** 9, strength)
        self.assertEqual(yard.bound(), (expected.numerator, expected.denominator))

    def test_against_a_second_reckoning_and_never_less_than_the_spread(self):
        met = 0
        for rule in RULES:
            for seed in range(25):
                chance = random.Random(seed)
                names = "abcdef"[:chance.randint(1, 6)]
                ties = [(one, other) for one in names for other in names if one < other and chance.random() < 0.6]
                web = Web([(name, chance.choice([1, 2, 3, 5, 60])) for name in names], ties)
                yard, bound = Yard(web, rule), Fraction(0)
                for step in range(15):
                    there = yard.stand()
                    if len(there) < 8 and (chance.random() < 0.6 or not there):
                        piece = chance.choice([name for name in piece_names(12) if name not in there])
                        weight, hand = chance.randint(1, chance.choice([3, 50])), chance.choice(names)
                        ways = chance.choice([None, None, ties[:2], []])
                        yard.come(piece, weight, hand, ways)
                        bound += Fraction(weight, web.strength(hand))
                    else:
                        piece = chance.choice(list(there))
                        bound += Fraction(yard.goods().weight(piece), web.strength(there[piece]))
                        yard.go(piece)
                    with self.subTest(rule=rule, seed=seed, step=step):
                        self.assertEqual(yard.bound(), (bound.numerator, bound.denominator))
                        for moment in range(chance.choice([0, 1, 1, 2, 5])):
                            if rule in CALM:
                                self.assertLessEqual(Fraction(*yard.spread()), Fraction(*yard.bound()))
                                met += yard.spread() == yard.bound() != (0, 1)
                            yard.tick(1)
                            if oracle.at_rest(yard.goods(), yard.stand(), rule):
                                bound = Fraction(*oracle.spread(yard.goods(), yard.stand()))
                            self.assertEqual(yard.bound(), (bound.numerator, bound.denominator))
                        if rule in CALM:
                            self.assertLessEqual(Fraction(*yard.spread()), Fraction(*yard.bound()))
        self.assertGreater(met, 100)

    def test_many_moments_in_one_tick_or_one_by_one(self):
        for rule in RULES:
            pieces = [(name, 3 + place % 5, "abc"[place % 2]) for place, name in enumerate(piece_names(9))]
            one, other = filled(rule, *pieces), filled(rule, *pieces)
            one.tick(20)
            for moment in range(20):
                other.tick(1)
            self.assertEqual(seen(one), seen(other))


class Logs(YardCase):
    def test_all_deeds_in_order(self):
        yard = Yard(path(1, 1, 1), "least one fall")
        yard.come("p", 1, "a")
        yard.come("q", 2, "a", [("a", "b")])
        yard.tick(1)
        yard.come("r", 3, "b")
        yard.go("p")
        yard.tick(2)
        yard.go("r")
        self.assertEqual(yard.log(), [
            ("come", "p", 1, "a"), ("come", "q", 2, "a"), ("move", 0, "q", "a", "b"), ("come", "r", 3, "b"),
            ("go", "p", "a"), ("move", 1, "r", "b", "a"), ("go", "r", "a"),
        ])

    def test_the_moment_of_each_move(self):
        yard = Yard(path(1, 1, 1), "turns high")
        yard.tick(3)
        yard.come("p", 1, "b")
        yard.tick(4)
        self.assertEqual(yard.log(), [
            ("come", "p", 1, "b"), ("move", 3, "p", "b", "c"), ("move", 5, "p", "c", "b"), ("move", 6, "p", "b", "a"),
        ])

    def test_nothing_of_what_was_refused(self):
        yard = filled("turns fall", ("p", 5, "a"))
        ahead = yard.log()
        for deed, given in [(yard.come, ("p", 5, "a")), (yard.come, ("q", 0, "a")), (yard.come, ("q", 1, "x")),
                            (yard.go, ("q",)), (yard.tick, (-1,)), (yard.tick, (True,))]:
            with self.assertRaises(EvenError):
                deed(*given)
            self.assertEqual(yard.log(), ahead)
        self.assertEqual(ahead, [("come", "p", 5, "a")])

    def test_the_list_told_and_changed(self):
        yard = filled("turns high", ("p", 5, "a"))
        told = yard.log()
        kept = copy.deepcopy(told)
        told.append("x")
        self.assertEqual(yard.log(), kept)
        yard.tick(1)
        self.assertEqual(told, kept + ["x"])

    def test_the_log_leads_to_the_stand(self):
        for rule in RULES:
            chance = random.Random(rule + "log")
            yard, stand = Yard(path(1, 2, 1, 3), rule), {}
            for name in piece_names(10):
                yard.come(name, chance.randint(1, 20), chance.choice("abcd"))
                yard.tick(chance.randint(0, 3))
                if chance.random() < 0.3:
                    yard.go(chance.choice(list(yard.stand())))
            for deed in yard.log():
                if deed[0] == "come":
                    stand[deed[1]] = deed[3]
                elif deed[0] == "go":
                    self.assertEqual(stand.pop(deed[1]), deed[2])
                else:
                    self.assertEqual(stand[deed[2]], deed[3])
                    stand[deed[2]] = deed[4]
            self.assertEqual(stand, yard.stand())


if __name__ == "__main__":
    unittest.main()
