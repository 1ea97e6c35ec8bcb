"""[2], [13] to [15]: moves and their judge."""

import copy
import random
import unittest

from evenpieces.errors import EvenError, NoMove, NoStand
from evenpieces.goods import Goods
from evenpieces.moves import judged, moved
from oddments import NO_LISTS, EqualToAll
from samples import SMALL_STAND, by_chance, laid, path, small_goods, wrong_stands

# In a path a, b, c, d: p is free, q goes between b and c alone, r is fixed.
START = {"p": "a", "q": "b", "r": "c"}
GOOD = [("p", "a", "b"), ("q", "b", "c"), ("p", "b", "c"), ("q", "c", "b"), ("p", "c", "d")]

# What comes behind a fault is not looked at.
ANYTHING = [
    None, "x", (), ("p", "a", "b"), ("p", "a", "a"), ["p", "a", "b"], ("x", "y", "z"), 7, object(), EqualToAll(),
]

BAD_FORMS = [
    None, True, 0, "", "pab", "p a b", [], ["p", "a", "b"], {}, {"p": "a"}, {"p", "a", "b"}, (), ("p",), ("p", "a"),
    ("p", "a", "b", "c"), ("p", "a", "b", None), (None, "a", "b"), ("p", None, "b"), ("p", "a", None), (1, "a", "b"),
    ("p", 1, "b"), ("p", "a", 1), (["p"], "a", "b"), ("p", ["a"], "b"), ("p", "a", ["b"]), (("p", "a", "b"),),
    (b"p", b"a", b"b"), (EqualToAll(), "a", "b"), ("p", EqualToAll(), "b"), ("p", "a", EqualToAll()),
    (None, None, None), object(), EqualToAll(), tuple, iter(("p", "a", "b")),
]

# One move for each reason, from START, and moves for which two or more are due: the first one is told.
BY_REASON = {
    "form": BAD_FORMS + [("x", "a"), ("x", 1, "b"), ("p", "c", None), ("p", "b", None), ("x", "y", None),
                         ("p", "a", ["c"]), ("r", "c"), ("r", "c", "b", "c"), ("r", "b", 1), ["p", "a", "c"]],
    "piece": [("x", "a", "b"), ("", "a", "b"), ("P", "a", "b"), ("p ", "a", "b"), ("a", "a", "b"), ("x", "a", "c"),
              ("x", "y", "z"), ("x", "", ""), ("x", "a", "a"), ("pp", "c", "b"), ("a b", "c", "b"), ("p\n", "a", "b")],
    "place": [("p", "b", "c"), ("p", "c", "b"), ("p", "x", "b"), ("p", "", "b"), ("p", "A", "b"), ("p", "b", "d"),
              ("p", "d", "a"), ("p", "x", "y"), ("p", "b", "b"), ("q", "a", "b"), ("q", "d", "c"), ("q", "a", "d"),
              ("q", "c", "b"), ("r", "b", "c"), ("r", "d", "c"), ("r", "a", "d"), ("r", "d", "d"), ("p", "a ", "b")],
    "tie": [("p", "a", "c"), ("p", "a", "d"), ("p", "a", "a"), ("p", "a", "x"), ("p", "a", ""), ("p", "a", "B"),
            ("p", "a", "b "), ("q", "b", "d"), ("q", "b", "b"), ("r", "c", "a"), ("r", "c", "c"), ("r", "c", "x"),
            ("p", "a", "p"), ("p", "a", "b\n")],
    "ways": [("q", "b", "a"), ("r", "c", "b"), ("r", "c", "d")],
}


def path_goods():
    return Goods(path(1, 2, 3, 4), [("p", 5, None), ("q", 3, [("c", "b")]), ("r", 4, [])])


class GoodRows(unittest.TestCase):
    def test_no_moves(self):
        self.assertEqual(judged(path_goods(), START, []), ("good", START))
        self.assertEqual(moved(path_goods(), START, []), START)
        self.assertEqual(judged(Goods(path(1), []), {}, []), ("good", {}))

    def test_one_move(self):
        self.assertEqual(judged(path_goods(), START, [("p", "a", "b")]), ("good", {"p": "b", "q": "b", "r": "c"}))

    def test_each_move_goes_from_where_the_one_ahead_led(self):
        self.assertEqual(judged(path_goods(), START, GOOD), ("good", {"p": "d", "q": "b", "r": "c"}))
        self.assertEqual(moved(path_goods(), START, GOOD), {"p": "d", "q": "b", "r": "c"})

    def test_there_and_back(self):
        self.assertEqual(moved(path_goods(), START, [("p", "a", "b"), ("p", "b", "a")]), START)

    def test_a_piece_goes_up_as_well(self):
        goods, stand = laid(path(1, 1), p=(1, "a"), q=(9, "b"))
        self.assertEqual(moved(goods, stand, [("p", "a", "b")]), {"p": "b", "q": "b"})

    def test_a_hundred_moves_and_somewhat_more(self):
        for count in [99, 100, 101, 150]:
            with self.subTest(count=count):
                moves = [("p", "a", "b"), ("p", "b", "a")] * 75
                end = dict(START, p="b" if count % 2 else "a")
                self.assertEqual(judged(path_goods(), START, moves[:count]), ("good", end))
                self.assertEqual(judged(path_goods(), START, moves[:count] + [None]), ("bad", count, "form"))

    def test_kinds(self):
        answer = judged(path_goods(), START, GOOD)
        self.assertIs(answer.__class__, tuple)
        self.assertIs(answer[1].__class__, dict)


class BadRows(unittest.TestCase):
    def bad(self, moves, k, reason):
        goods = path_goods()
        with self.subTest(moves=moves):
            self.assertEqual(judged(goods, START, moves), ("bad", k, reason))
            with self.assertRaises(NoMove) as taken:
                moved(goods, START, moves)
            self.assertEqual((taken.exception.k, taken.exception.reason), (k, reason))

    def test_the_first_move(self):
        for reason, moves in BY_REASON.items():
            for move in moves:
                self.bad([move], 0, reason)
                self.bad([move] + GOOD, 0, reason)
                self.bad([move] + ANYTHING, 0, reason)

    def test_a_middle_one_and_the_last(self):
        # There and back, so that all is as at the start.
        ahead = [("p", "a", "b"), ("q", "b", "c"), ("p", "b", "a"), ("q", "c", "b")]
        for reason, moves in BY_REASON.items():
            for move in moves:
                self.bad(ahead + [move], 4, reason)
                self.bad(ahead + [move] + ahead, 4, reason)
                self.bad(ahead + [move] + ANYTHING, 4, reason)
                self.bad(ahead + [("p", "a", "b"), ("p", "b", "a"), move, move], 6, reason)

    def test_the_first_of_several_faults_is_told(self):
        for reason, moves in BY_REASON.items():
            for others in BY_REASON.values():
                self.bad([("p", "a", "b"), ("p", "b", "a"), moves[0], others[-1]], 2, reason)

    def test_the_place_is_the_one_at_that_time(self):
        self.bad([("p", "a", "b"), ("p", "a", "b")], 1, "place")
        self.bad([("p", "a", "b"), ("p", "b", "c"), ("p", "b", "a")], 2, "place")
        self.bad([("q", "b", "c"), ("q", "c", "d")], 1, "ways")
        self.bad([("p", "a", "b"), ("p", "b", "d")], 1, "tie")

    def test_moves_that_are_no_list(self):
        for moves in NO_LISTS + [(("p", "a", "b"),), "pab", ("p", "a", "b"), {("p", "a", "b")}, iter([]), -1]:
            self.bad(moves, -1, "form")

    def test_goods_without_pieces(self):
        goods = Goods(path(1, 1), [])
        self.assertEqual(judged(goods, {}, [("p", "a", "b")]), ("bad", 0, "piece"))
        self.assertEqual(judged(goods, {}, [None]), ("bad", 0, "form"))

    def test_the_refusal_is_one_of_the_program(self):
        with self.assertRaises(EvenError):
            moved(path_goods(), START, [("p", "a", "c")])


class StandsAreLookedAtAhead(unittest.TestCase):
    def test_what_is_no_stand(self):
        for stand in wrong_stands():
            for moves in [[], [("a", "b", "c")], [None], None, ("a", "b", "c"), "x"]:
                for function in [judged, moved]:
                    with self.subTest(stand=stand, moves=moves, function=function), self.assertRaises(NoStand):
                        function(small_goods(), stand, moves)

    def test_what_is_one(self):
        self.assertEqual(moved(small_goods(), SMALL_STAND, [("a", "b", "c")]), {"a": "c", "q": "c"})


class WhatIsToldAndWhatIsHandedIn(unittest.TestCase):
    def test_the_stand_told_is_a_new_one(self):
        for moves in [[], GOOD]:
            goods, stand = path_goods(), dict(START)
            first, second = judged(goods, stand, moves), judged(goods, stand, moves)
            self.assertIsNot(first, second)
            self.assertIsNot(first[1], second[1])
            self.assertIsNot(first[1], stand)
            self.assertIsNot(moved(goods, stand, moves), stand)
            first[1]["p"] = "x"
            self.assertEqual(stand, START)
            self.assertEqual(judged(goods, stand, moves), second)

    def test_what_is_handed_in_stays(self):
        for moves in [GOOD, GOOD[:2] + [("p", "b", "d")] + GOOD, GOOD + [None], None]:
            stand, kept = dict(START), copy.copy(moves)
            judged(path_goods(), stand, moves)
            try:
                moved(path_goods(), stand, moves)
            except NoMove:
                pass
            self.assertEqual(list(stand.items()), list(START.items()))
            self.assertEqual(moves, kept)

    def test_bad_answers_are_new_ones(self):
        for moves in [None, [None]]:
            self.assertIsNot(judged(path_goods(), START, moves), judged(path_goods(), START, moves))

    def test_later_changes_of_what_was_handed_in(self):
        stand, moves = dict(START), list(GOOD)
        told = moved(path_goods(), stand, moves)
        stand["p"] = "x"
        moves.clear()
        self.assertEqual(told, {"p": "d", "q": "b", "r": "c"})


class AnyRow(unittest.TestCase):
    """Rows by chance, walked along here move by move."""

    def expected(self, goods, stand, moves):
        there = dict(stand)
        for k, (piece, one, other) in enumerate(moves):
            faults = [
                ("piece", piece not in there),
                ("place", there.get(piece) != one),
                ("tie", tuple(sorted((one, other))) not in goods.web.ties()),
                ("ways", piece in there and goods.ways(piece) is not None
                 and tuple(sorted((one, other))) not in goods.ways(piece)),
            ]
            for reason, is_due in faults:
                if is_due:
                    return ("bad", k, reason)
            there[piece] = other
        return ("good", there)

    def test_many(self):
        seen = set()
        for seed in range(600):
            goods, stand = by_chance(seed)
            chance, there, moves = random.Random(seed), dict(stand), []
            for step in range(chance.randint(0, 8)):
                piece = chance.choice(goods.names() + ["zz"] if chance.random() < 0.05 else goods.names() or ["zz"])
                hands = goods.web.hands()
                one = there.get(piece, "a") if chance.random() < 0.95 else chance.choice(hands)
                other = chance.choice(goods.web.neighbours(one) or hands if chance.random() < 0.95 else hands)
                moves.append((piece, one, other))
                there[piece] = other
            answer = judged(goods, stand, moves)
            seen.add(answer[-1] if answer[0] == "bad" else "good")
            with self.subTest(seed=seed):
                self.assertEqual(answer, self.expected(goods, stand, moves))
        self.assertEqual(seen, {"good", "piece", "place", "tie", "ways"})


if __name__ == "__main__":
    unittest.main()
