"""[2], [37], [38]: texts."""

import copy
import random
import unittest

from evenpieces.errors import EvenError, NoStand, NoText
from evenpieces.goods import Goods
from evenpieces.texts import goods_text, moves_text, read_goods, read_moves, read_web, web_text
from evenpieces.webs import Web
from oddments import EqualToAll, NO_LISTS, NO_NAMES
from samples import SMALL_STAND, by_chance, laid, path, piece_names, small_goods, star, wrong_stands

WEB_TEXT = "hand a 1\nhand b 20\nhand c 300\ntie a b\ntie b c"
GOODS_TEXT = WEB_TEXT + "\npiece beam 7 b b-c\npiece rock 1000000000 a fixed\npiece stone 40 c free"
MOVES_TEXT = "beam b c\nstone c b\nstone b a"

# What no text of any kind is.
NO_TEXTS = [thing for thing in NO_LISTS if not isinstance(thing, str)] + [
    [], ["hand a 1"], ("hand a 1",), b"hand a 1", 1, -1, bytearray(b"hand a 1"), str, len,
]


def some_web():
    return Web([("c", 300), ("a", 1), ("b", 20)], [("c", "b"), ("b", "a")])


def some_goods():
    goods = Goods(some_web(), [("stone", 40, None), ("rock", 10 ** 9, []), ("beam", 7, [("c", "b")])])
    return goods, {"stone": "c", "beam": "b", "rock": "a"}


def told_web(web):
    return [(hand, web.strength(hand)) for hand in web.hands()], web.ties()


def told_goods(goods):
    return told_web(goods.web), [(name, goods.weight(name), goods.ways(name)) for name in goods.names()]


def swapped(text, one, other):
    rows = text.split("\n")
    rows[one], rows[other] = rows[other], rows[one]
    return "\n".join(rows)


def without(text, place):
    rows = text.split("\n")
    return "\n".join(rows[:place] + rows[place + 1:])


def twice(text, place):
    rows = text.split("\n")
    return "\n".join(rows[:place + 1] + rows[place:])


def spoilt(text):
    """Texts that are none, near to a text of three rows or more."""
    found = ["", "\n", " ", text + "\n", "\n" + text, text + " ", " " + text, text + "\n\n", text + ",", text + ";",
             text.upper(), text.replace("\n", "\n\n", 1), text.replace("\n", "\n\n"), text.replace("\n", "\r\n"),
             text.replace("\n", " "), text.replace("\n", ", "), text.replace(" ", "  ", 1), text.replace(" ", "\t"),
             text.replace(" ", "\t", 1), text.replace("\n", " \n", 1), text.replace("\n", "\n ", 1), text + "\nx",
             text + "\nend", "x\n" + text, text + "\r", "\ufeff" + text, text + "\x00", text.replace(" ", "\u00a0", 1)]
    rows = text.split("\n")
    for place in range(len(rows)):
        found.append(twice(text, place))
        for word in range(len(rows[place].split(" "))):
            for change in [lambda word: word + "x x", lambda word: word + "  ", lambda word: "", lambda word: "A",
                           lambda word: word + " ", lambda word: " " + word, lambda word: "abcdefghi",
                           lambda word: word.upper() + "Z", lambda word: "-" + word, lambda word: word + "\n",
                           lambda word: "+" + word, lambda word: "\u0663", lambda word: "\u00e4"]:
                words = rows[place].split(" ")
                words[word] = change(words[word])
                found.append("\n".join(rows[:place] + [" ".join(words)] + rows[place + 1:]))
            words = rows[place].split(" ")
            found.append("\n".join(rows[:place] + [" ".join(words[:word] + words[word + 1:])] + rows[place + 1:]))
    return found


class TextCase(unittest.TestCase):
    def refused(self, function, *texts):
        for text in texts:
            with self.subTest(function=function, text=text), self.assertRaises(NoText) as caught:
                function(text)
            self.assertIs(caught.exception.__class__, NoText)
            self.assertIsInstance(caught.exception, EvenError)


class TextsOfWebs(TextCase):
    def test_by_hand(self):
        self.assertEqual(web_text(some_web()), WEB_TEXT)
        self.assertEqual(web_text(Web([("a", 1)], [])), "hand a 1")
        self.assertEqual(web_text(Web([("b", 1000), ("abcdefgh", 7)], [])), "hand abcdefgh 7\nhand b 1000")
        self.assertEqual(web_text(Web([("b", 1000), ("abcdefgh", 7)], [("b", "abcdefgh")])),
                         "hand abcdefgh 7\nhand b 1000\ntie abcdefgh b")

    def test_eight_hands(self):
        rows = [f"hand {name} 3" for name in "abcdefgh"] + [f"tie a {name}" for name in "bcdefgh"]
        web = star(*[3] * 8)
        self.assertEqual(web_text(web), "\n".join(rows))
        self.assertEqual(told_web(read_web("\n".join(rows))), told_web(web))

    def test_read_back(self):
        for web in [some_web(), path(1), path(1, 1000), star(*range(1, 9))] + [by_chance(k)[0].web for k in range(40)]:
            text = web_text(web)
            again = read_web(text)
            self.assertIsInstance(again, Web)
            self.assertEqual(told_web(again), told_web(web))
            self.assertEqual(web_text(again), text)
            self.assertFalse(text.endswith("\n"))

    def test_what_is_no_text(self):
        self.refused(read_web, *NO_TEXTS, EqualToAll())

    def test_spoilt_texts(self):
        self.assertGreater(len(spoilt(WEB_TEXT)), 200)
        self.refused(read_web, *spoilt(WEB_TEXT))

    def test_rows_missing_or_exchanged(self):
        rows = WEB_TEXT.split("\n")
        for one in range(len(rows)):
            for other in range(one):
                self.refused(read_web, swapped(WEB_TEXT, one, other))
        for place in range(3):
            self.refused(read_web, without(WEB_TEXT, place))
        self.assertEqual(read_web(without(WEB_TEXT, 3)).ties(), [("b", "c")])
        self.refused(read_web, "tie a b", "tie a b\ntie b c", "tie a b\nhand a 1\nhand b 1")

    def test_numbers(self):
        for number in ["0", "00", "01", "001", "-1", "+1", "1001", "10000", "1.0", "1.", "1,000", "1_0", "0x1", "1e2",
                       "one", "a", "\u0661", "\u00b2", "\uff11", "1" * 20, "9" * 5000, "1x", "x1", "--1", "1 1"]:
            self.refused(read_web, f"hand a {number}", f"hand a 1\nhand b {number}\ntie a b")
        self.assertEqual(read_web("hand a 1000").strength("a"), 1000)
        self.assertEqual(read_web("hand a 10").strength("a"), 10)

    def test_names(self):
        for name in NO_NAMES + ["hand ", "a-b", "a b"]:
            if isinstance(name, str):
                self.refused(read_web, f"hand {name} 1", f"hand a 1\nhand b 1\ntie a {name}")

    def test_ties(self):
        two = "hand a 1\nhand b 1\nhand c 1\n"
        self.assertEqual(read_web(two + "tie a b\ntie a c").ties(), [("a", "b"), ("a", "c")])
        self.refused(read_web, two + "tie b a", two + "tie a c\ntie a b", two + "tie a b\ntie a b", two + "tie a d",
                     two + "tie d e", two + "tie a a", two + "tie a b\ntie b a", two + "tie b c\ntie a c",
                     two + "tie a", two + "tie a b c", two + "tie", two + "ties a b", two + "Tie a b", two + "tie a-b")

    def test_hands(self):
        self.refused(read_web, "hand b 1\nhand a 1", "hand a 1\nhand a 1", "hand a 1\nhand a 2", "Hand a 1", "hands a 1",
                     "hand a", "hand", "hand a 1 1", "hand 1 a", "a 1", "\n".join(f"hand {k} 1" for k in "abcdefghi"))

    def test_the_text_of_goods_is_none_of_a_web(self):
        self.refused(read_web, GOODS_TEXT, "hand a 1\npiece p 1 a free", "piece p 1 a free")


class TextsOfGoods(TextCase):
    def test_by_hand(self):
        self.assertEqual(goods_text(*some_goods()), GOODS_TEXT)
        self.assertEqual(goods_text(Goods(path(5), []), {}), "hand a 5")
        self.assertEqual(goods_text(*laid(path(5), p=(1, "a"))), "hand a 5\npiece p 1 a free")

    def test_several_ties(self):
        goods, stand = laid(star(1, 1, 1), p=(3, "b", [("c", "a"), ("b", "a")]))
        self.assertEqual(goods_text(goods, stand),
                         "hand a 1\nhand b 1\nhand c 1\ntie a b\ntie a c\npiece p 3 b a-b,a-c")

    def test_hands_and_pieces_may_be_called_like_the_words(self):
        web = Web([("hand", 1), ("tie", 2), ("piece", 3), ("free", 4)], [("tie", "hand"), ("free", "tie")])
        goods, stand = laid(web, fixed=(1, "hand"), free=(2, "free", []), tie=(3, "tie", [("hand", "tie")]))
        text = goods_text(goods, stand)
        self.assertEqual(text.split("\n")[4:], ["tie free tie", "tie hand tie", "piece fixed 1 hand free",
                                                "piece free 2 free fixed", "piece tie 3 tie hand-tie"])
        again = read_goods(text)
        self.assertEqual((told_goods(again[0]), again[1]), (told_goods(goods), stand))

    def test_read_back(self):
        for seed in range(80):
            goods, stand = by_chance(seed, pieces=seed % 31)
            text = goods_text(goods, stand)
            told = read_goods(text)
            with self.subTest(seed=seed):
                self.assertIs(told.__class__, tuple)
                self.assertIsInstance(told[0], Goods)
                self.assertEqual((told_goods(told[0]), told[1]), (told_goods(goods), stand))
                self.assertEqual(goods_text(*told), text)
                self.assertFalse(text.endswith("\n"))

    def test_thirty_pieces_and_none(self):
        goods = Goods(path(1, 2), [(name, 10 ** 9, None) for name in piece_names(30)])
        stand = {name: "b" for name in goods.names()}
        rows = ["hand a 1", "hand b 2", "tie a b"] + [f"piece {name} 1000000000 b free" for name in goods.names()]
        self.assertEqual(goods_text(goods, stand), "\n".join(rows))
        again = read_goods("\n".join(rows))
        self.assertEqual((told_goods(again[0]), again[1]), (told_goods(goods), stand))
        empty = read_goods(WEB_TEXT)
        self.assertEqual((told_goods(empty[0]), empty[1]), ((told_web(some_web()), []), {}))

    def test_no_stand(self):
        for stand in wrong_stands():
            with self.subTest(stand=stand), self.assertRaises(NoStand):
                goods_text(small_goods(), stand)

    def test_what_is_no_text(self):
        self.refused(read_goods, *NO_TEXTS, EqualToAll())

    def test_spoilt_texts(self):
        self.refused(read_goods, *spoilt(GOODS_TEXT))

    def test_rows_exchanged_or_missing(self):
        rows = GOODS_TEXT.split("\n")
        for one in range(len(rows)):
            for other in range(one):
                self.refused(read_goods, swapped(GOODS_TEXT, one, other))
        for place in range(3):
            self.refused(read_goods, without(GOODS_TEXT, place))
        self.assertEqual(read_goods(without(GOODS_TEXT, 3))[0].web.ties(), [("b", "c")])
        # Without the tie b-c the ways of the beam are along none.
        self.refused(read_goods, without(GOODS_TEXT, 4))
        for place in [5, 6, 7]:
            self.assertEqual(len(read_goods(without(GOODS_TEXT, place))[1]), 2)

    def test_ways(self):
        web = "hand a 1\nhand b 1\nhand c 1\ntie a b\ntie b c\n"
        for ways, told in [("free", None), ("fixed", []), ("a-b", [("a", "b")]), ("a-b,b-c", [("a", "b"), ("b", "c")])]:
            self.assertEqual(read_goods(web + "piece p 1 a " + ways)[0].ways("p"), told)
        for ways in ["b-a", "b-c,a-b", "a-b,a-b", "a-b,b-a", "a-c", "a-d", "x-y", "a-a", "", ",", "-", "a", "a-", "-b",
                     "a-b,", ",a-b", "a-b,,b-c", "a-b, b-c", "a-b-c", "ab", "a--b", "none", "Free", "fixed,a-b",
                     "a-b,free", "free,free", "all", "None", "[]", "0", "a-b;b-c", "a-B", "a_b", "a,b", "free-fixed"]:
            self.refused(read_goods, web + "piece p 1 a " + ways)

    def test_pieces(self):
        web = "hand a 1\nhand b 1\ntie a b\n"
        self.refused(read_goods, web + "piece p 1 c free", web + "piece p 1  free", web + "piece p 1 free",
                     web + "piece p 1 a", web + "piece p 1 a free free", web + "piece p", web + "piece",
                     web + "Piece p 1 a free", web + "pieces p 1 a free", web + "piece q 1 a free\npiece p 1 a free",
                     web + "piece p 1 a free\npiece p 1 a free", web + "piece p 1 a free\npiece p 2 b free",
                     web + "piece p a 1 free", "piece p 1 a free\n" + web[:-1], "piece p 1 a free")

    def test_numbers(self):
        for number in ["0", "00", "01", "007", "-1", "+1", "1000000001", "9999999999", "10000000000", "1.0", "1_0", "x",
                       "1e9", "10**9", "\u0661", "\u00b2", "1" * 30, "9" * 5000]:
            self.refused(read_goods, f"hand a 1\npiece p {number} a free")
        self.assertEqual(read_goods("hand a 1\npiece p 1000000000 a free")[0].weight("p"), 10 ** 9)

    def test_names(self):
        for name in NO_NAMES + ["a-b", "a b"]:
            if isinstance(name, str):
                self.refused(read_goods, f"hand a 1\npiece {name} 1 a free", f"hand a 1\npiece p 1 {name}b free")


class TextsOfMoves(TextCase):
    def test_by_hand(self):
        moves = [("beam", "b", "c"), ("stone", "c", "b"), ("stone", "b", "a")]
        self.assertEqual(moves_text(moves), MOVES_TEXT)
        self.assertEqual(read_moves(MOVES_TEXT), moves)
        self.assertEqual(moves_text([("p", "a", "b")]), "p a b")
        self.assertEqual(read_moves("p a b"), [("p", "a", "b")])

    def test_none(self):
        self.assertEqual(moves_text([]), "")
        self.assertEqual(read_moves(""), [])

    def test_any_names(self):
        for moves in [[("a", "a", "a")], [("abcdefgh", "z", "abcdefgh")] * 2, [("hand", "tie", "piece")]]:
            self.assertEqual(read_moves(moves_text(moves)), moves)

    def test_read_back(self):
        chance = random.Random(5)
        for many in [1, 2, 3, 100]:
            moves = [tuple("".join(chance.choices("abxyz", k=chance.randint(1, 8))) for word in range(3))
                     for row in range(many)]
            self.assertEqual(read_moves(moves_text(moves)), moves)
            self.assertEqual(moves_text(moves).count("\n"), many - 1)

    def test_kinds(self):
        self.assertIs(read_moves("p a b").__class__, list)
        self.assertIs(read_moves("p a b")[0].__class__, tuple)
        self.assertIs(read_moves("").__class__, list)

    def test_refusals(self):
        self.refused(read_moves, *NO_TEXTS, EqualToAll())
        self.refused(read_moves, "\n", " ", "p", "p a", "p a b c", "p a b\n", "\np a b", "p a b\n\np b c", "p  a b",
                     "p a  b", " p a b", "p a b ", "p a B", "P a b", "p a b1", "p a abcdefghi", "abcdefghi a b",
                     "p,a,b", "p a b, p b c", "p a b; p b c", "p a b\np b", "p b\np a b", "p a b\n p b c", "p\ta\tb",
                     "p a b\r\np b c", "p a \u00e4", "p a 1", "p-a-b", "none", "p a b\n ", "p a b\x0bp b c")


class WhatIsToldAndWhatIsHandedIn(unittest.TestCase):
    def test_what_is_told_is_the_askers_own(self):
        told = read_goods(GOODS_TEXT)
        told[1].clear()
        self.assertEqual(read_goods(GOODS_TEXT)[1], {"beam": "b", "rock": "a", "stone": "c"})
        self.assertIsNot(read_goods(GOODS_TEXT), read_goods(GOODS_TEXT))
        moves = read_moves(MOVES_TEXT)
        moves.clear()
        self.assertEqual(len(read_moves(MOVES_TEXT)), 3)

    def test_what_is_handed_in_stays(self):
        goods, stand = some_goods()
        kept = copy.deepcopy(stand)
        goods_text(goods, stand)
        self.assertEqual(list(stand.items()), list(kept.items()))
        moves = [("p", "a", "b")]
        moves_text(moves)
        self.assertEqual(moves, [("p", "a", "b")])
        self.assertEqual(goods_text(small_goods(), SMALL_STAND), goods_text(small_goods(), SMALL_STAND))

    def test_the_order_in_which_a_stand_is_written_does_not_count(self):
        goods, stand = some_goods()
        self.assertEqual(goods_text(goods, dict(sorted(stand.items()))), goods_text(goods, stand))


if __name__ == "__main__":
    unittest.main()
