"""[2], [4], [5], [6]: webs."""

import copy
import itertools
import unittest

from evenpieces.errors import NoHand, NoWeb
from evenpieces.webs import Web
from oddments import NO_LISTS, NO_NAMES, NO_WHOLE_NUMBERS, EqualToAll

EIGHT = ["a", "b", "c", "d", "e", "f", "g", "h"]


def web_of(names, ties):
    return Web([(name, 1) for name in names], ties)


def path_web():
    return Web([("c", 3), ("a", 1), ("d", 4), ("b", 2)], [("d", "c"), ("b", "a"), ("b", "c")])


class MakingWebs(unittest.TestCase):
    def refused(self, hands, ties):
        with self.assertRaises(NoWeb):
            Web(hands, ties)

    def test_one_hand(self):
        web = Web([("a", 1)], [])
        self.assertEqual(web.hands(), ["a"])
        self.assertEqual(web.ties(), [])

    def test_eight_hands_with_all_ties(self):
        ties = list(itertools.combinations(EIGHT, 2))
        web = web_of(EIGHT, ties)
        self.assertEqual(web.hands(), EIGHT)
        self.assertEqual(web.ties(), ties)

    def test_least_and_greatest_strength(self):
        web = Web([("a", 1), ("b", 1000)], [])
        self.assertEqual(web.strength("a"), 1)
        self.assertEqual(web.strength("b"), 1000)

    def test_shortest_and_longest_names_and_outermost_letters(self):
        names = ["a", "abcdefgh", "z", "zzzzzzzz"]
        self.assertEqual(web_of(names, []).hands(), names)

    def test_no_hands_and_nine(self):
        self.refused([], [])
        self.refused([(name, 1) for name in EIGHT + ["i"]], [])

    def test_wrong_names(self):
        for name in NO_NAMES:
            with self.subTest(name=name):
                self.refused([(name, 1)], [])
                self.refused([("b", 1), (name, 1)], [])

    def test_wrong_strengths(self):
        for strength in NO_WHOLE_NUMBERS + [1001, 1002]:
            with self.subTest(bits=strength.bit_length() if isinstance(strength, int) else strength):
                self.refused([("a", strength)], [])
                self.refused([("b", 1), ("a", strength)], [])

    def test_a_name_twice(self):
        self.refused([("a", 1), ("a", 2)], [])
        self.refused([("a", 1), ("b", 1), ("a", 1)], [])

    def test_hands_that_are_no_tuples_of_two(self):
        for hand in [["a", 1], ("a",), ("a", 1, 1), (), "ab", "a", None, 1, {"a": 1}, {"a", 1}, EqualToAll()]:
            with self.subTest(hand=hand):
                self.refused([hand], [])
                self.refused([("b", 1), hand], [])

    def test_hands_that_are_no_list(self):
        for hands in NO_LISTS + [(("a", 1),), {("a", 1)}, {("a", 1): 1}, {"a": 1}, iter([("a", 1)])]:
            with self.subTest(hands=hands):
                self.refused(hands, [])

    def test_ties_that_are_no_list(self):
        for ties in NO_LISTS + [(("a", "b"),), {("a", "b")}, {("a", "b"): 1}, {"a": "b"}, iter([("a", "b")])]:
            with self.subTest(ties=ties):
                self.refused([("a", 1), ("b", 1)], ties)

    def test_ties_of_names_that_no_hand_has(self):
        for name in NO_NAMES + ["c", "ab", "aa"]:
            with self.subTest(name=name):
                self.refused([("a", 1), ("b", 1)], [("a", name)])
                self.refused([("a", 1), ("b", 1)], [(name, "b")])
                self.refused([("a", 1), ("b", 1)], [("a", "b"), (name, "a")])

    def test_a_tie_of_one_hand_with_itself(self):
        self.refused([("a", 1)], [("a", "a")])
        self.refused([("a", 1), ("b", 1)], [("a", "b"), ("b", "b")])

    def test_ties_that_are_no_tuples_of_two(self):
        for tie in [["a", "b"], "ab", ("a",), ("a", "b", "c"), ("a", "b", "a"), (), None, 1, {"a": "b"}, {"a", "b"},
                    {"a": 1, "b": 2}, EqualToAll()]:
            with self.subTest(tie=tie):
                self.refused([("a", 1), ("b", 1), ("c", 1)], [tie])
                self.refused([("a", 1), ("b", 1), ("c", 1)], [("a", "c"), tie])

    def test_a_tie_twice(self):
        hands = [("a", 1), ("b", 1), ("c", 1)]
        self.refused(hands, [("a", "b"), ("a", "b")])
        self.refused(hands, [("a", "b"), ("b", "a")])
        self.refused(hands, [("b", "a"), ("c", "b"), ("a", "b")])
        self.refused(hands, [("b", "a"), ("c", "b"), ("b", "a")])


class AskingWebs(unittest.TestCase):
    def test_hands_are_sorted(self):
        self.assertEqual(path_web().hands(), ["a", "b", "c", "d"])
        self.assertEqual(web_of(["b", "ab", "aa", "a"], []).hands(), ["a", "aa", "ab", "b"])

    def test_strengths(self):
        web = path_web()
        self.assertEqual([web.strength(hand) for hand in "abcd"], [1, 2, 3, 4])

    def test_neighbours_are_sorted(self):
        web = path_web()
        told = [web.neighbours(hand) for hand in "abcd"]
        self.assertEqual(told, [["b"], ["a", "c"], ["b", "d"], ["c"]])
        star = web_of(EIGHT, [("e", other) for other in "hgfdcba"])
        self.assertEqual(star.neighbours("e"), ["a", "b", "c", "d", "f", "g", "h"])

    def test_neighbours_of_a_hand_without_ties(self):
        self.assertEqual(web_of("abc", [("a", "b")]).neighbours("c"), [])

    def test_ties_are_sorted_with_the_lesser_name_first(self):
        self.assertEqual(path_web().ties(), [("a", "b"), ("b", "c"), ("c", "d")])
        self.assertEqual(web_of("abc", [("c", "a"), ("b", "a")]).ties(), [("a", "b"), ("a", "c")])
        self.assertEqual(web_of(["b", "ab", "a"], [("b", "ab"), ("ab", "a")]).ties(), [("a", "ab"), ("ab", "b")])

    def test_the_way_round_makes_no_difference(self):
        for ties in itertools.product([("a", "b"), ("b", "a")], [("b", "c"), ("c", "b")]):
            for row in itertools.permutations(ties):
                with self.subTest(row=row):
                    web = web_of("abc", list(row))
                    self.assertEqual(web.ties(), [("a", "b"), ("b", "c")])
                    self.assertEqual(web.neighbours("b"), ["a", "c"])

    def test_what_is_no_hand_is_refused(self):
        web = path_web()
        for thing in NO_NAMES + ["e", "ab", "aa", 10 ** 5000, [["a"]], ("a", [])]:
            with self.subTest(kind=thing.__class__):
                with self.assertRaises(NoHand):
                    web.strength(thing)
                with self.assertRaises(NoHand):
                    web.neighbours(thing)

    def test_are_tied_of_hands(self):
        web = path_web()
        tied = [(one, other) for one in "abcd" for other in "abcd" if web.are_tied(one, other) is True]
        self.assertEqual(tied, [("a", "b"), ("b", "a"), ("b", "c"), ("c", "b"), ("c", "d"), ("d", "c")])
        for one, other in itertools.product("abcd", repeat=2):
            self.assertIn(web.are_tied(one, other), [True, False])

    def test_are_tied_of_anything(self):
        web = path_web()
        things = NO_NAMES + NO_WHOLE_NUMBERS + NO_LISTS + ["e", ("a", "b"), ("a", []), 1.5]
        for thing in things:
            with self.subTest(kind=thing.__class__):
                self.assertIs(web.are_tied(thing, "b"), False)
                self.assertIs(web.are_tied("b", thing), False)
                self.assertIs(web.are_tied(thing, thing), False)

    def test_most_neighbours(self):
        self.assertEqual(web_of("a", []).most_neighbours(), 0)
        self.assertEqual(web_of(EIGHT, []).most_neighbours(), 0)
        self.assertEqual(web_of("ab", [("a", "b")]).most_neighbours(), 1)
        self.assertEqual(path_web().most_neighbours(), 2)
        self.assertEqual(web_of("abcd", [("d", "a"), ("d", "b"), ("d", "c")]).most_neighbours(), 3)
        self.assertEqual(web_of(EIGHT, list(itertools.combinations(EIGHT, 2))).most_neighbours(), 7)


class Turns(unittest.TestCase):
    def test_no_ties_no_rows(self):
        self.assertEqual(web_of("a", []).turns(), [])
        self.assertEqual(web_of("abc", []).turns(), [])

    def test_a_path(self):
        self.assertEqual(path_web().turns(), [[("a", "b"), ("c", "d")], [("b", "c")]])

    def test_a_star_has_a_row_for_each_tie(self):
        web = web_of("abcd", [("d", "b"), ("d", "c"), ("a", "d")])
        self.assertEqual(web.turns(), [[("a", "d")], [("b", "d")], [("c", "d")]])

    def test_a_ring_of_three(self):
        self.assertEqual(
            web_of("abc", [("c", "a"), ("b", "c"), ("a", "b")]).turns(),
            [[("a", "b")], [("a", "c")], [("b", "c")]],
        )

    def test_all_ties_of_four(self):
        self.assertEqual(
            web_of("abcd", list(itertools.combinations("abcd", 2))).turns(),
            [[("a", "b"), ("c", "d")], [("a", "c"), ("b", "d")], [("a", "d"), ("b", "c")]],
        )

    def test_an_earlier_row_is_filled_ahead_of_a_later_one(self):
        # (c, e) still goes into the first row, though (b, c) ahead of it stands in the second one.
        web = web_of("abcde", [("a", "b"), ("a", "d"), ("b", "c"), ("c", "e"), ("d", "e")])
        self.assertEqual(
            web.turns(), [[("a", "b"), ("c", "e")], [("a", "d"), ("b", "c")], [("d", "e")]],
        )
        web = web_of("abcd", [("a", "b"), ("a", "c"), ("a", "d"), ("b", "d"), ("c", "d")])
        self.assertEqual(
            web.turns(), [[("a", "b"), ("c", "d")], [("a", "c"), ("b", "d")], [("a", "d")]],
        )

    def test_every_tie_stands_once_and_in_the_first_row_it_can(self):
        pairs = list(itertools.combinations("abcde", 2))
        for mask in range(2 ** len(pairs)):
            ties = [pair for place, pair in enumerate(pairs) if mask >> place & 1]
            rows = web_of("abcde", list(reversed(ties))).turns()
            self.assertEqual(sorted(sum(rows, [])), ties)
            for place, row in enumerate(rows):
                self.assertEqual(row, sorted(row))
                self.assertEqual(len(set(sum(row, ()))), 2 * len(row))
                for tie in row:
                    for earlier in rows[:place]:
                        ahead = [other for other in earlier if other < tie]
                        self.assertTrue(any(set(tie) & set(other) for other in ahead))


class NothingIsShared(unittest.TestCase):
    def answers(self, web):
        hands = [(hand, web.strength(hand), web.neighbours(hand)) for hand in web.hands()]
        tied = [web.are_tied(one, other) for one in "abcdef" for other in "abcdef"]
        return copy.deepcopy((hands, web.hands(), web.ties(), tied, web.most_neighbours(), web.turns()))

    def test_what_is_handed_in_stays_as_it_was(self):
        hands = [("c", 3), ("a", 1), ("b", 2)]
        ties = [("c", "b"), ("b", "a")]
        self.answers(Web(hands, ties))
        self.assertEqual(hands, [("c", 3), ("a", 1), ("b", 2)])
        self.assertEqual(ties, [("c", "b"), ("b", "a")])

    def test_what_is_refused_stays_as_it_was(self):
        hands = [("c", 3), ("a", 1), ("b", 0)]
        ties = [("c", "b"), ("b", "a"), ("a", "b")]
        with self.assertRaises(NoWeb):
            Web(hands, [])
        self.assertEqual(hands, [("c", 3), ("a", 1), ("b", 0)])
        with self.assertRaises(NoWeb):
            web_of("abc", ties)
        self.assertEqual(ties, [("c", "b"), ("b", "a"), ("a", "b")])

    def test_a_refusal_changes_no_answer(self):
        web = path_web()
        before = self.answers(web)
        for thing in ["e", [], {}, None]:
            with self.assertRaises(NoHand):
                web.strength(thing)
            with self.assertRaises(NoHand):
                web.neighbours(thing)
            web.are_tied(thing, "a")
        self.assertEqual(self.answers(web), before)

    def test_what_is_handed_in_may_be_changed_behind_the_call(self):
        hands = [("c", 3), ("a", 1), ("b", 2)]
        ties = [("c", "b"), ("b", "a")]
        web = Web(hands, ties)
        before = self.answers(web)
        hands[0] = ("f", 9)
        hands.append(("d", 4))
        ties.pop()
        ties.append(("a", "c"))
        self.assertEqual(self.answers(web), before)
        hands.clear()
        ties.clear()
        self.assertEqual(self.answers(web), before)

    def test_what_is_told_may_be_changed(self):
        web = path_web()
        before = self.answers(web)
        web.hands().append("e")
        web.hands().clear()
        web.neighbours("b").append("d")
        web.neighbours("b").clear()
        web.ties().append(("a", "d"))
        web.ties().reverse()
        web.turns().append([("a", "d")])
        web.turns()[0].append(("a", "d"))
        web.turns()[1].clear()
        self.assertEqual(self.answers(web), before)

    def test_each_answer_is_a_new_one(self):
        web = path_web()
        self.assertIsNot(web.hands(), web.hands())
        self.assertIsNot(web.neighbours("b"), web.neighbours("b"))
        first = web.ties()
        second = web.ties()
        self.assertIsNot(first, second)
        self.assertIsNot(first[0], second[0])
        first = web.turns()
        second = web.turns()
        self.assertIsNot(first, second)
        self.assertIsNot(first[0], second[0])
        self.assertIsNot(first[0][0], second[0][0])

    def test_asked_again_the_answer_is_the_same(self):
        web = path_web()
        self.assertEqual(self.answers(web), self.answers(web))

    def test_two_webs_know_nothing_of_one_another(self):
        one = path_web()
        before = self.answers(one)
        other = Web([("a", 7), ("e", 8)], [("a", "e")])
        self.assertEqual(self.answers(one), before)
        self.assertEqual(other.hands(), ["a", "e"])
        self.assertEqual(other.strength("a"), 7)
        self.assertEqual(other.neighbours("a"), ["e"])
        with self.assertRaises(NoHand):
            one.strength("e")
        with self.assertRaises(NoHand):
            other.strength("b")

    def test_two_webs_of_the_same_lists(self):
        hands = [("a", 1), ("b", 2)]
        ties = [("b", "a")]
        one = Web(hands, ties)
        other = Web(hands, ties)
        one.ties().clear()
        one.turns()[0].clear()
        self.assertEqual(self.answers(one), self.answers(other))


if __name__ == "__main__":
    unittest.main()
