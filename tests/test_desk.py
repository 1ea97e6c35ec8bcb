"""[2], [39], [40]: the desk."""

import random
import unittest

from evenpieces.bounds import rest_by
from evenpieces.desk import Desk
from evenpieces.errors import (
    EvenError, NoFraction, NoGoods, NoHand, NoMost, NoPiece, NoRow, NoRule, NotLetBy, NoText, NoYard,
)
from evenpieces.fewests import fewest_moves
from evenpieces.moves import judged
from evenpieces.runs import run_of
from evenpieces.stands import spread
from evenpieces.texts import goods_text, read_goods
from evenpieces.yards import Yard
from oddments import EqualToAll
from oracle import LET_BY, RULES
from samples import NO_RULES, path, piece_names

WEB = "hand a 1, hand b 2, hand c 1, tie a b, tie b c"
# Each row but yard, so that it is answered by a desk where the pieces p and q are.
ROWS = ["come r 3 a free", "come r 3 a fixed", "come r 3 a a-b", "come r 3 a c-b,b-a", "go p", "tick 0", "tick 3",
        "loads", "heights", "spread", "bound", "rest", "run 100", "within", "fewest 1/1 100", "show"]
LOOKS = ["loads", "heights", "spread", "bound", "rest", "show", "run 20", "fewest 1/2 200"]
# None of these is a number as a row writes it.
NO_NUMBERS = ["", "00", "01", "007", "-1", "+1", "-0", "10000000000", "12345678901", "0" * 10, "1.0", "1_0", "x", "1x",
              "0x1", "1e3", "\u0661", "\u00b2", "\uff11", "9" * 5000, "one", "True", "None", "1,0", "1/1"]
NO_WAYS = ["", "Free", "none", "all", "a", "a-", "-b", "-", ",", "a-b,", ",a-b", "a-b,,b-c", "a-b-c", "a--b", "free,",
           "fixed,a-b", "a-b,free", "a-B", "a1-b", "abcdefghi-b", "a-abcdefghi", "a_b", "a/b", "None", "[]", "a-b;b-c",
           "\u00e4-b", "ab", "a-\t"]
NO_RATIOS = ["", "1", "/", "1/", "/1", "1//1", "1/1/1", "-1/2", "1/-2", "+1/2", "01/2", "1/02", "1.0/2", "1:2", "1/x",
             "x/1", "one/two", "10000000000/1", "1/10000000000", "1/\u0661", "1\\2", "00/1", "0/01", "1/2/"]


def told(*rows, rule="least one fall", web=WEB):
    """A desk that has been told of a yard and these rows."""
    desk = Desk()
    desk.say(f"yard {web}; {rule}")
    for row in rows:
        desk.say(row)
    return desk


def two_pieces(rule="below one fall"):
    return told("come p 4 a free", "come q 1 b b-c", rule=rule)


def looks(desk):
    return [desk.say(row) for row in LOOKS]


class DeskCase(unittest.TestCase):
    def refused(self, refusal, desk, *rows):
        for row in rows:
            with self.subTest(row=row), self.assertRaises(refusal) as caught:
                desk.say(row)
            self.assertIs(caught.exception.__class__, refusal)
            self.assertIsInstance(caught.exception, EvenError)


class Answers(DeskCase):
    def test_yard(self):
        desk = Desk()
        self.assertEqual(desk.say(f"yard {WEB}; least one fall"), "ok")
        self.assertEqual(desk.say("show"), WEB)
        self.assertEqual(desk.say("yard hand a 1; turns high"), "ok")
        self.assertEqual(desk.say("show"), "hand a 1")

    def test_all_rules(self):
        for rule in RULES:
            desk = Desk()
            self.assertEqual(desk.say(f"yard hand a 1, hand b 1, tie a b; {rule}"), "ok")
            desk.say("come p 1 a free")
            # The piece alone goes by high, and by no other guard.
            self.assertEqual(desk.say("rest"), "no" if rule.endswith("high") else "yes")

    def test_come_and_go(self):
        desk = told()
        self.assertEqual(desk.say("come p 40 a free"), "ok")
        self.assertEqual(desk.say("come q 7 b fixed"), "ok")
        self.assertEqual(desk.say("come r 1000000000 c b-c"), "ok")
        self.assertEqual(desk.say("come s 1 c c-b,b-a"), "ok")
        self.assertEqual(desk.say("show"), WEB + ", piece p 40 a free, piece q 7 b fixed, piece r 1000000000 c b-c, "
                                           "piece s 1 c a-b,b-c")
        self.assertEqual(desk.say("go r"), "ok")
        self.assertEqual(desk.say("go p"), "ok")
        self.assertEqual(desk.say("show"), WEB + ", piece q 7 b fixed, piece s 1 c a-b,b-c")
        self.assertEqual(desk.say("come p 5 b free"), "ok")
        self.assertEqual(desk.say("loads"), "a 0; b 12; c 1")

    def test_tick(self):
        desk = two_pieces()
        # a has 4 / 1, b 1 / 2, c nothing: p goes to b, then q to c, as 2 * (5 * 1) > 1 * 3, then it rests.
        self.assertEqual(desk.say("tick 0"), "none")
        self.assertEqual(desk.say("tick 1"), "p a b")
        self.assertEqual(desk.say("tick 1"), "q b c")
        self.assertEqual(desk.say("tick 1"), "none")
        self.assertEqual(two_pieces().say("tick 3000"), "p a b; q b c")

    def test_several_moves_of_a_moment(self):
        desk = told("come p 4 b free", "come q 3 b free", "come r 1 a free", rule="below all high")
        self.assertEqual(desk.say("tick 1"), "p b c; q b a")

    def test_loads_and_heights(self):
        desk = two_pieces()
        self.assertEqual(desk.say("loads"), "a 4; b 1; c 0")
        self.assertEqual(desk.say("heights"), "a 4/1; b 1/2; c 0/1")
        self.assertEqual(told().say("loads"), "a 0; b 0; c 0")
        self.assertEqual(told(web="hand only 3").say("loads"), "only 0")
        self.assertEqual(told(web="hand only 3").say("heights"), "only 0/1")

    def test_spread_and_bound(self):
        desk = two_pieces()
        self.assertEqual((desk.say("spread"), desk.say("bound")), ("4/1", "9/2"))
        desk.say("tick 2")
        self.assertEqual((desk.say("heights"), desk.say("spread"), desk.say("bound")),
                         ("a 0/1; b 2/1; c 1/1", "2/1", "2/1"))
        desk.say("go q")
        self.assertEqual((desk.say("spread"), desk.say("bound")), ("2/1", "3/1"))
        self.assertEqual((told().say("spread"), told().say("bound")), ("0/1", "0/1"))

    def test_rest(self):
        desk = two_pieces()
        self.assertEqual(desk.say("rest"), "no")
        desk.say("tick 1")
        self.assertEqual(desk.say("rest"), "no")
        desk.say("tick 1")
        self.assertEqual(desk.say("rest"), "yes")
        self.assertEqual(told().say("rest"), "yes")

    def test_run(self):
        desk = two_pieces()
        for most, answer in [("0", "more"), ("1", "more"), ("2", "rest 2"), ("3000", "rest 2"), ("9999999999", "rest 2")]:
            self.assertEqual(desk.say("run " + most), answer)
        desk.say("tick 2")
        self.assertEqual(desk.say("run 0"), "rest 0")
        desk = told("come p 1 a free", rule="turns high", web="hand a 1, hand b 1, hand c 1, tie a b, tie b c")
        self.assertEqual((desk.say("run 5"), desk.say("run 6")), ("more", "ring 0 6"))
        # From moment 0 on, whatever the moment of the yard: behind one it is at b, whose row is a-b then.
        desk.say("tick 1")
        self.assertEqual((desk.say("run 5"), desk.say("run 6")), ("more", "ring 0 6"))
        desk = told("come p 1 a free", "come q 1 a free", "come r 1 a free", rule="least one high",
                    web="hand a 1, hand b 1, tie a b")
        self.assertEqual(desk.say("run 100"), "ring 2 2")

    def test_within(self):
        # M 2: 4 * 4 * 2 + 1 * 1 * 1 is 33; 2 * 5 * 5 / 4 is 12.5, so 13; by turns there are two rows.
        self.assertEqual(two_pieces().say("within"), "20")
        self.assertEqual(two_pieces("turns calm").say("within"), "40")
        self.assertEqual(told().say("within"), "0")
        for rule in RULES:
            if rule not in LET_BY:
                self.refused(NotLetBy, two_pieces(rule), "within")

    def test_fewest(self):
        desk = two_pieces()
        self.assertEqual(desk.say("fewest 4/1 1"), "none")
        self.assertEqual(desk.say("fewest 5/2 100"), "p a b")
        self.assertIn(desk.say("fewest 2/1 100"), ["p a b; q b c", "q b c; p a b"])
        self.assertEqual(desk.say("fewest 0/1 100"), "never")
        self.assertEqual(desk.say("fewest 0/1 6"), "never")
        self.assertIn(desk.say("fewest 0/1 2"), ["more", "never"])
        desk = told(*[f"come {name} 1 a free" for name in piece_names(25)], web="hand a 1, hand b 1, tie a b")
        self.assertIn(desk.say("fewest 0/1 100"), ["more", "never"])
        self.assertEqual(told().say("fewest 0/1 1"), "none")

    def test_fewest_just_as_the_function_tells_it(self):
        desk = two_pieces()
        goods, stand = read_goods(desk.say("show").replace(", ", "\n"))
        for most in range(1, 8):
            expected = {"more": "more", "none": "never"}[fewest_moves(goods, stand, (0, 1), most)[0]]
            self.assertEqual(desk.say(f"fewest 0/1 {most}"), expected)

    def test_show_reads_back(self):
        for rule in RULES:
            chance = random.Random(rule)
            desk = told(rule=rule)
            for name in piece_names(9):
                ways = chance.choice(["free", "fixed", "a-b", "c-b", "b-a,b-c", "c-b,a-b"])
                desk.say(f"come {name} {chance.randint(1, 99)} {chance.choice('abc')} {ways}")
            desk.say("tick 4")
            goods, stand = read_goods(desk.say("show").replace(", ", "\n"))
            self.assertEqual(goods_text(goods, stand).replace("\n", ", "), desk.say("show"))
            self.assertEqual(len(goods.names()), 9)

    def test_answers_are_texts(self):
        for row in ROWS:
            self.assertIs(two_pieces().say(row).__class__, str)

    def test_beside_the_functions(self):
        for rule in RULES:
            for seed in range(8):
                chance = random.Random(seed)
                desk, yard = told(rule=rule), Yard(read_goods(WEB.replace(", ", "\n"))[0].web, rule)
                for name in piece_names(chance.randint(1, 4)):
                    weight, hand = chance.randint(1, 9), chance.choice("abc")
                    desk.say(f"come {name} {weight} {hand} free")
                    yard.come(name, weight, hand)
                with self.subTest(rule=rule, seed=seed):
                    self.compare(desk, yard)
                    moves = yard.tick(2)
                    self.assertEqual(desk.say("tick 2"), "; ".join(" ".join(move) for move in moves) or "none")
                    self.compare(desk, yard)

    def compare(self, desk, yard):
        goods, stand = yard.goods(), yard.stand()
        self.assertEqual(desk.say("show"), goods_text(goods, stand).replace("\n", ", "))
        run = run_of(goods, stand, yard.rule, 30)
        self.assertEqual(desk.say("run 30"), " ".join(map(str, run[:2] if run[0] == "rest" else run)))
        if yard.rule in LET_BY:
            self.assertEqual(desk.say("within"), str(rest_by(goods, stand, yard.rule)))
        for top, below in [(0, 1), (1, 1), (3, 2), (30, 1)]:
            told_moves = fewest_moves(goods, stand, (top, below), 3000)
            answer = desk.say(f"fewest {top}/{below} 3000")
            if told_moves == ("none",):
                self.assertEqual(answer, "never")
            else:
                moves = [tuple(row.split(" ")) for row in answer.split("; ")] if answer != "none" else []
                self.assertEqual(len(moves), len(told_moves[1]))
                end = judged(goods, stand, moves)[1]
                self.assertLessEqual(spread(goods, end)[0] * below, top * spread(goods, end)[1])
        self.assertEqual(desk.say("loads"), "; ".join(f"{hand} {load}" for hand, load in yard.loads().items()))
        self.assertEqual(desk.say("heights"), "; ".join(f"{hand} {height[0]}/{height[1]}"
                                                        for hand, height in yard.heights().items()))
        self.assertEqual(desk.say("spread"), "%d/%d" % yard.spread())
        self.assertEqual(desk.say("bound"), "%d/%d" % yard.bound())
        self.assertEqual(desk.say("rest"), "yes" if yard.at_rest() else "no")


class RowsThatAreNone(DeskCase):
    def both(self, *rows):
        """Refused by a desk with a yard and by one without."""
        desk = two_pieces()
        ahead = looks(desk)
        self.refused(NoRow, desk, *rows)
        self.assertEqual(looks(desk), ahead)
        self.refused(NoRow, Desk(), *rows)

    def test_the_rows_are_rows(self):
        for row in ROWS:
            two_pieces().say(row)
            self.refused(NoYard, Desk(), row)

    def test_first_words(self):
        self.both("", " ", "  ", "x", "Loads", "load", "height", "LOADS", "loads;", "loads,", "Yard a; b", "yards a; b",
                  "yard", "YARD hand a 1; turns high", "Come r 1 a free", "comes r 1 a free", "gone p", "ticks 1",
                  "moves", "log", "at_rest", "stand", "goods", "none", "ok", "help", "1", "rests", "runs 1", "shown")

    def test_a_word_too_many(self):
        for row in ROWS:
            self.both(row + " x", row + " 1", row + " free", "x " + row, row + " " + row)

    def test_a_word_too_few(self):
        for row in ROWS:
            words = row.split(" ")
            for place in range(len(words)):
                self.both(" ".join(words[:place] + words[place + 1:]))

    def test_empty_words_and_blanks(self):
        for row in ROWS:
            words = row.split(" ")
            self.both(" " + row, row + " ", "  " + row, row + "  ", " " + row + " ")
            for place in range(len(words)):
                self.both(" ".join(words[:place] + [""] + words[place + 1:]))
                self.both(" ".join(words[:place] + [""] + words[place:]))
            self.both(row.replace(" ", "\t") + "\t")

    def test_line_ends(self):
        for row in ROWS + [f"yard {WEB}; least one fall"]:
            self.both(row + "\n", "\n" + row, row.replace(" ", "\n", 1) if " " in row else row + "\n\n",
                      row + " \n", row + "\n" + row)
        self.both("yard " + WEB.replace(", ", "\n") + "; least one fall", f"yard {WEB}; least one\nfall",
                  f"yard {WEB};\nleast one fall", f"yard\n{WEB}; least one fall", "\n")

    def test_numbers(self):
        for number in NO_NUMBERS:
            self.both(f"tick {number}", f"run {number}", f"come r {number} a free", f"fewest 1/1 {number}")

    def test_ways(self):
        for ways in NO_WAYS:
            self.both(f"come r 1 a {ways}")

    def test_ratios(self):
        for ratio in NO_RATIOS:
            self.both(f"fewest {ratio} 5")

    def test_yard_rows(self):
        self.both("yard", "yard ", f"yard {WEB}", f"yard {WEB};", f"yard {WEB};least one fall", f"yard{WEB}; turns high",
                  "yard; turns high", f" yard {WEB}; turns high", f"yard {WEB}, turns high", "yard ;", "yard ;x")

    def test_what_is_no_text(self):
        self.both(None, True, False, 0, 1, -1, [], ["loads"], ("loads",), {}, {"loads": 1}, b"loads", set(), object(),
                  EqualToAll(), str, len)

    def test_ahead_of_all_else(self):
        # A name, a weight or a hand that would be refused as well.
        self.both("come P 0 x none", "come p 00 a free", "come p 1 zzz a-", "go  q", "go x y", "tick -1 x",
                  "fewest 2/4 00", "fewest 2/4 -1", "fewest 1/0 x", "come  1 a free", "come p 99999999999 a free")


class RefusalsOfTheRows(DeskCase):
    def test_no_yard(self):
        self.refused(NoYard, Desk(), *ROWS)
        # Whatever else would be refused with a yard.
        self.refused(NoYard, Desk(), "come P 0 zzz a-a", "go nobody", "fewest 2/4 0", "fewest 1/0 1", "go P",
                     "come p 9999999999 a free", "tick 9999999999")

    def test_no_yard_behind_a_refused_one(self):
        desk = Desk()
        self.refused(NoText, desk, "yard x; turns high")
        self.refused(NoYard, desk, "loads")
        self.refused(NoRule, desk, f"yard {WEB}; turns")
        self.refused(NoYard, desk, "loads")
        desk.say(f"yard {WEB}; turns high")
        self.assertEqual(desk.say("loads"), "a 0; b 0; c 0")

    def test_no_text(self):
        desk = two_pieces()
        ahead = looks(desk)
        for web in ["", " ", "x", "hand", "hand a", "hand a 0", "hand a 01", "hand a 1001", "hand A 1", "hand a 1, ",
                    ", hand a 1", "hand a 1,hand b 1", "hand a 1,  hand b 1", "hand a 1 , hand b 1", "hand b 1, hand a 1",
                    "hand a 1, hand b 1, tie b a", "hand a 1, hand b 1, tie a c", "hand a 1, piece p 1 a free",
                    "tie a b", "hand a 1, , hand b 1", " hand a 1", "hand a 1 ", "hand  a 1", "hand a 1;", ";"]:
            for rule in ["turns high", "no rule", ""]:
                self.refused(NoText, desk, f"yard {web}; {rule}")
        # All behind the first `; ` is the rule.
        self.refused(NoRule, desk, "yard hand a 1; hand b 1; turns high")
        self.assertEqual(looks(desk), ahead)

    def test_no_rule(self):
        desk = two_pieces()
        ahead = looks(desk)
        for rule in NO_RULES:
            if isinstance(rule, str) and "\n" not in rule:
                self.refused(NoRule, desk, f"yard {WEB}; {rule}")
        self.refused(NoRule, desk, f"yard {WEB}; ", f"yard {WEB};  turns high", f"yard {WEB}; turns high ")
        self.assertEqual(looks(desk), ahead)

    def test_no_goods(self):
        desk = two_pieces()
        ahead = looks(desk)
        self.refused(NoGoods, desk, "come P 1 a free", "come abcdefghi 1 a free", "come r1 1 a free", "come - 1 a free",
                     "come r 0 a free", "come r 1000000001 a free", "come r 9999999999 a free", "come p 1 a free",
                     "come q 5 c fixed", "come r 1 a a-c", "come r 1 a a-a", "come r 1 a a-b,b-a", "come r 1 a a-b,a-b",
                     "come r 1 a a-x", "come r 1 a x-y", "come r 0 x free", "come p 1 x free", "come r 1 x a-c",
                     "come free 0 a fixed")
        self.assertEqual(looks(desk), ahead)

    def test_thirty_pieces(self):
        desk = told(*[f"come {name} 1 a free" for name in piece_names(30)])
        self.refused(NoGoods, desk, "come more 1 a free")
        self.refused(NoHand, desk, "come more 1 x free")
        desk.say("go " + piece_names(30)[0])
        self.assertEqual(desk.say("come more 1 a free"), "ok")

    def test_no_hand(self):
        desk = two_pieces()
        ahead = looks(desk)
        self.refused(NoHand, desk, "come r 1 d free", "come r 1 A fixed", "come r 1 p a-b", "come r 1 ab free",
                     "come r 1 1 free", "come r 1 a, free", "come r 1 ; free")
        self.assertEqual(looks(desk), ahead)

    def test_no_piece(self):
        desk = two_pieces()
        ahead = looks(desk)
        self.refused(NoPiece, desk, "go r", "go P", "go a", "go pp", "go 1", "go ;", "go p;", "go p,q")
        self.assertEqual(looks(desk), ahead)
        desk.say("go p")
        self.refused(NoPiece, desk, "go p")

    def test_no_fraction_and_no_most(self):
        desk = two_pieces()
        ahead = looks(desk)
        self.refused(NoFraction, desk, "fewest 2/4 5", "fewest 1/0 5", "fewest 0/0 5", "fewest 0/2 5", "fewest 4/2 5",
                     "fewest 2/4 0", "fewest 1/0 0", "fewest 2/2 1", "fewest 1000000000/1000000000 1")
        self.refused(NoMost, desk, "fewest 1/2 0", "fewest 0/1 0", "fewest 100/1 0")
        self.assertEqual(looks(desk), ahead)
        self.assertEqual(desk.say("fewest 9999999999/1 9999999999"), "none")


class Desks(DeskCase):
    def test_a_new_yard_row_forgets_all(self):
        desk = two_pieces()
        desk.say("tick 1")
        desk.say(f"yard {WEB}; turns high")
        fresh = told(rule="turns high")
        self.assertEqual(looks(desk), looks(fresh))
        self.assertEqual(desk.say("bound"), "0/1")
        # The moment, too: by turns the row a-b is first again.
        desk.say("come p 1 a free")
        self.assertEqual(desk.say("tick 1"), "p a b")

    def test_two_desks(self):
        one, other = two_pieces(), Desk()
        self.refused(NoYard, other, "loads")
        other.say(f"yard {WEB}; turns high")
        other.say("come p 9 c free")
        self.assertEqual(one.say("loads"), "a 4; b 1; c 0")
        self.assertEqual(other.say("loads"), "a 0; b 0; c 9")

    def test_asked_again_the_same(self):
        desk = two_pieces()
        self.assertEqual(looks(desk), looks(desk))
        self.assertEqual(desk.say("within"), desk.say("within"))
        desk.say("tick 0")
        self.assertEqual(looks(desk), looks(two_pieces()))

    def test_run_and_fewest_are_no_deeds(self):
        desk = two_pieces()
        desk.say("run 100")
        desk.say("fewest 2/1 100")
        desk.say("within")
        self.assertEqual(looks(desk), looks(two_pieces()))


if __name__ == "__main__":
    unittest.main()
