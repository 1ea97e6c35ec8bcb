"""[2], [7], [8]: goods."""

import copy
import itertools
import unittest

from evenpieces.errors import NoGoods, NoPiece
from evenpieces.goods import Goods
from evenpieces.webs import Web
from oddments import NO_LISTS, NO_NAMES, NO_WHOLE_NUMBERS, EqualToAll

HANDS = "abcd"
ALL_TIES = [("a", "b"), ("b", "c"), ("c", "d")]


def path_web():
    return Web([("a", 1), ("b", 2), ("c", 3), ("d", 4)], list(ALL_TIES))


def mixed_goods():
    return Goods(path_web(), [
        ("wide", 5, None),
        ("still", 3, []),
        ("one", 4, [("c", "b")]),
        ("all", 9, [("d", "c"), ("b", "c"), ("b", "a")]),
    ])


def goings(goods, piece):
    return [one + other for one, other in itertools.product(HANDS, repeat=2) if goods.may_go(piece, one, other)]


def names_of_many(count):
    pairs = itertools.product("abcdefgh", repeat=2)
    return [one + other for one, other in itertools.islice(pairs, count)]


class MakingGoods(unittest.TestCase):
    def refused(self, pieces):
        with self.assertRaises(NoGoods):
            Goods(path_web(), pieces)

    def refused_piece(self, piece):
        self.refused([piece])
        self.refused([("one", 1, None), piece])

    def test_no_pieces(self):
        self.assertEqual(Goods(path_web(), []).names(), [])

    def test_thirty_pieces_and_somewhat_more(self):
        # A point bounds the number at thirty, but none refuses more in goods.
        for count in [30, 31]:
            with self.subTest(count=count):
                names = names_of_many(count)
                goods = Goods(path_web(), [(name, 1, None) for name in reversed(names)])
                self.assertEqual(goods.names(), names)

    def test_the_web_is_the_one_handed_in(self):
        web = path_web()
        self.assertIs(Goods(web, []).web, web)
        self.assertIs(Goods(web, [("p", 1, [("a", "b")])]).web, web)

    def test_least_and_greatest_weight(self):
        goods = Goods(path_web(), [("p", 1, None), ("q", 10 ** 9, None)])
        self.assertEqual([goods.weight("p"), goods.weight("q")], [1, 10 ** 9])

    def test_shortest_and_longest_names_and_outermost_letters(self):
        names = ["a", "abcdefgh", "z", "zzzzzzzz"]
        self.assertEqual(Goods(path_web(), [(name, 1, None) for name in names]).names(), names)

    def test_ways_of_every_size_either_way_round(self):
        for count in range(4):
            for ties in itertools.combinations(ALL_TIES, count):
                turned = [(other, one) for one, other in ties]
                for ways in [list(ties), turned, list(reversed(turned))]:
                    with self.subTest(ways=ways):
                        goods = Goods(path_web(), [("p", 1, ways)])
                        self.assertEqual(goods.ways("p"), list(ties))

    def test_wrong_names(self):
        for name in NO_NAMES:
            with self.subTest(name=name):
                self.refused_piece((name, 1, None))

    def test_a_name_twice(self):
        self.refused([("p", 1, None), ("p", 1, None)])
        self.refused([("p", 1, None), ("q", 1, None), ("p", 2, [])])

    def test_wrong_weights(self):
        for weight in NO_WHOLE_NUMBERS + [10 ** 9 + 1, 10 ** 9 + 2]:
            with self.subTest(bits=weight.bit_length() if isinstance(weight, int) else weight):
                self.refused_piece(("p", weight, None))

    def test_ways_that_are_neither_none_nor_a_list(self):
        things = [thing for thing in NO_LISTS if thing is not None]
        for ways in things + [(("a", "b"),), "free", {("a", "b")}, {("a", "b"): 1}, iter([("a", "b")])]:
            with self.subTest(ways=ways):
                self.refused_piece(("p", 1, ways))

    def test_ways_along_what_is_no_tie_of_the_web(self):
        for name in NO_NAMES + ["e", "ab"]:
            with self.subTest(name=name):
                self.refused_piece(("p", 1, [("a", name)]))
                self.refused_piece(("p", 1, [(name, "a")]))
        for one, other in [("a", "c"), ("c", "a"), ("a", "d"), ("d", "b")]:
            with self.subTest(one=one, other=other):
                self.refused_piece(("p", 1, [(one, other)]))
                self.refused_piece(("p", 1, [("a", "b"), (one, other)]))

    def test_ways_with_a_hand_twice(self):
        self.refused_piece(("p", 1, [("a", "a")]))
        self.refused_piece(("p", 1, [("a", "b"), ("b", "b")]))

    def test_ways_with_a_tie_twice(self):
        self.refused_piece(("p", 1, [("a", "b"), ("a", "b")]))
        self.refused_piece(("p", 1, [("a", "b"), ("b", "a")]))
        self.refused_piece(("p", 1, [("b", "a"), ("c", "b"), ("a", "b")]))

    def test_ways_with_a_tie_that_is_no_tuple_of_two(self):
        for tie in [["a", "b"], "ab", ("a",), ("a", "b", "c"), ("a", "b", "a"), (), None, 1, {"a": 1, "b": 2},
                    {"a", "b"}, EqualToAll()]:
            with self.subTest(tie=tie):
                self.refused_piece(("p", 1, [tie]))
                self.refused_piece(("p", 1, [("b", "c"), tie]))

    def test_pieces_that_are_no_tuples_of_three(self):
        for piece in [["p", 1, None], ("p", 1), ("p", 1, None, None), ("p",), (), "pqr", "p", None, 1,
                      {"p": 1, "q": 2, "r": 3}, {"p", "q", "r"}, EqualToAll()]:
            with self.subTest(piece=piece):
                self.refused_piece(piece)

    def test_pieces_that_are_no_list(self):
        piece = ("p", 1, None)
        for pieces in NO_LISTS + [(piece,), {piece}, {piece: 1}, piece, iter([piece])]:
            with self.subTest(pieces=pieces):
                self.refused(pieces)

    def test_what_is_no_web(self):
        for web in [None, [], {}, "web", 1, object()]:
            with self.subTest(web=web):
                with self.assertRaises(NoGoods):
                    Goods(web, [])


class AskingGoods(unittest.TestCase):
    def test_names_are_sorted(self):
        self.assertEqual(mixed_goods().names(), ["all", "one", "still", "wide"])
        goods = Goods(path_web(), [(name, 1, None) for name in ["b", "ab", "aa", "a"]])
        self.assertEqual(goods.names(), ["a", "aa", "ab", "b"])

    def test_weights(self):
        goods = mixed_goods()
        self.assertEqual([goods.weight(name) for name in goods.names()], [9, 4, 3, 5])

    def test_ways(self):
        goods = mixed_goods()
        self.assertIsNone(goods.ways("wide"))
        self.assertEqual(goods.ways("still"), [])
        self.assertEqual(goods.ways("one"), [("b", "c")])
        self.assertEqual(goods.ways("all"), [("a", "b"), ("b", "c"), ("c", "d")])

    def test_what_is_no_piece_is_refused(self):
        goods = mixed_goods()
        for thing in NO_NAMES + ["a", "wid", "widen", 10 ** 5000, [["one"]], ("one", []), {"one": 1}]:
            with self.subTest(kind=thing.__class__):
                with self.assertRaises(NoPiece):
                    goods.weight(thing)
                with self.assertRaises(NoPiece):
                    goods.ways(thing)
                with self.assertRaises(NoPiece):
                    goods.may_go(thing, "a", "b")

    def test_there_is_no_piece_where_there_are_none(self):
        goods = Goods(path_web(), [])
        for ask in [goods.weight, goods.ways]:
            with self.assertRaises(NoPiece):
                ask("a")

    def test_may_go_refuses_the_piece_ahead_of_the_hands(self):
        goods = mixed_goods()
        for thing in ["nil", [], {}, None, 1]:
            for one, other in [("a", "c"), ("a", "a"), ("x", "y"), ([], {}), (None, "a")]:
                with self.subTest(thing=thing, one=one, other=other):
                    with self.assertRaises(NoPiece):
                        goods.may_go(thing, one, other)

    def test_may_go_along_ties_alone_both_ways(self):
        goods = mixed_goods()
        every = ["ab", "ba", "bc", "cb", "cd", "dc"]
        self.assertEqual(goings(goods, "wide"), every)
        self.assertEqual(goings(goods, "all"), every)
        self.assertEqual(goings(goods, "one"), ["bc", "cb"])
        self.assertEqual(goings(goods, "still"), [])

    def test_may_go_tells_a_truth(self):
        goods = mixed_goods()
        for piece in goods.names():
            for one, other in itertools.product(HANDS, repeat=2):
                self.assertIn(goods.may_go(piece, one, other), [True, False])
                self.assertIsInstance(goods.may_go(piece, one, other), bool)

    def test_may_go_is_false_for_what_is_no_hand(self):
        goods = mixed_goods()
        for piece in goods.names():
            for thing in NO_NAMES + ["e", "ab", 10 ** 5000, ("a", [])]:
                with self.subTest(piece=piece, kind=thing.__class__):
                    self.assertIs(goods.may_go(piece, thing, "b"), False)
                    self.assertIs(goods.may_go(piece, "b", thing), False)
                    self.assertIs(goods.may_go(piece, thing, thing), False)

    def test_are_free(self):
        web = path_web()
        self.assertIs(Goods(web, []).are_free(), True)
        self.assertIs(Goods(web, [("p", 1, None)]).are_free(), True)
        self.assertIs(Goods(web, [("p", 1, None), ("q", 2, None)]).are_free(), True)
        self.assertIs(Goods(web, [("p", 1, [])]).are_free(), False)
        self.assertIs(Goods(web, [("p", 1, [("a", "b")]), ("q", 2, None)]).are_free(), False)
        self.assertIs(Goods(web, [("p", 1, None), ("q", 2, [])]).are_free(), False)

    def test_a_piece_with_all_ties_is_not_free(self):
        self.assertIs(Goods(path_web(), [("p", 1, list(ALL_TIES))]).are_free(), False)


class NothingIsShared(unittest.TestCase):
    def answers(self, goods):
        pieces = [(name, goods.weight(name), goods.ways(name), goings(goods, name)) for name in goods.names()]
        return copy.deepcopy((pieces, goods.names(), goods.are_free(), goods.web.hands(), goods.web.ties()))

    def test_what_is_handed_in_stays_as_it_was(self):
        web = path_web()
        ways = [("c", "b"), ("b", "a")]
        pieces = [("q", 2, ways), ("p", 1, None)]
        self.answers(Goods(web, pieces))
        self.assertEqual(ways, [("c", "b"), ("b", "a")])
        self.assertEqual(pieces, [("q", 2, [("c", "b"), ("b", "a")]), ("p", 1, None)])
        self.assertEqual(web.ties(), ALL_TIES)

    def test_what_is_refused_stays_as_it_was(self):
        ways = [("c", "b"), ("b", "a"), ("b", "c")]
        pieces = [("q", 2, ways), ("p", 1, None)]
        with self.assertRaises(NoGoods):
            Goods(path_web(), pieces)
        self.assertEqual(pieces, [("q", 2, [("c", "b"), ("b", "a"), ("b", "c")]), ("p", 1, None)])

    def test_a_refusal_changes_no_answer(self):
        goods = mixed_goods()
        before = self.answers(goods)
        for thing in ["nil", [], {}, None]:
            for ask in [goods.weight, goods.ways]:
                with self.assertRaises(NoPiece):
                    ask(thing)
            with self.assertRaises(NoPiece):
                goods.may_go(thing, "a", "b")
            goods.may_go("one", thing, "b")
        self.assertEqual(self.answers(goods), before)

    def test_what_is_handed_in_may_be_changed_behind_the_call(self):
        ways = [("c", "b")]
        fixed = []
        pieces = [("q", 2, ways), ("p", 1, fixed)]
        goods = Goods(path_web(), pieces)
        before = self.answers(goods)
        ways.append(("a", "b"))
        fixed.append(("a", "b"))
        pieces.append(("r", 3, None))
        pieces[0] = ("s", 9, None)
        self.assertEqual(self.answers(goods), before)
        ways.clear()
        pieces.clear()
        self.assertEqual(self.answers(goods), before)

    def test_what_is_told_may_be_changed(self):
        goods = mixed_goods()
        before = self.answers(goods)
        goods.names().append("more")
        goods.names().clear()
        goods.ways("one").append(("a", "b"))
        goods.ways("all").clear()
        goods.ways("still").append(("a", "b"))
        goods.web.ties().clear()
        self.assertEqual(self.answers(goods), before)

    def test_each_answer_is_a_new_one(self):
        goods = mixed_goods()
        self.assertIsNot(goods.names(), goods.names())
        first = goods.ways("one")
        second = goods.ways("one")
        self.assertIsNot(first, second)
        self.assertIsNot(first[0], second[0])

    def test_asked_again_the_answer_is_the_same(self):
        goods = mixed_goods()
        self.assertEqual(self.answers(goods), self.answers(goods))

    def test_two_goods_of_one_web_know_nothing_of_one_another(self):
        web = path_web()
        one = Goods(web, [("p", 1, None), ("q", 2, [("a", "b")])])
        before = self.answers(one)
        other = Goods(web, [("p", 7, []), ("r", 3, None)])
        self.assertEqual(self.answers(one), before)
        self.assertEqual(other.names(), ["p", "r"])
        self.assertEqual((other.weight("p"), other.ways("p")), (7, []))
        with self.assertRaises(NoPiece):
            other.weight("q")
        with self.assertRaises(NoPiece):
            one.weight("r")

    def test_two_goods_of_the_same_list(self):
        pieces = [("p", 1, [("a", "b")])]
        one = Goods(path_web(), pieces)
        other = Goods(path_web(), pieces)
        one.ways("p").clear()
        self.assertEqual(self.answers(one), self.answers(other))


if __name__ == "__main__":
    unittest.main()
