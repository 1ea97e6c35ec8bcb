"""[2], [16] to [20]: rules, and the moves that they make."""

import copy
import unittest

import oracle
from evenpieces.errors import EvenError, NoMoment, NoRule, NoStand
from evenpieces.goods import Goods
from evenpieces.moves import judged
from evenpieces.rules import at_rest, is_calm, is_let_by, is_rule, moves_of
from evenpieces.webs import Web
from samples import (
    NO_MOMENTS, NO_RULES, SMALL_STAND, by_chance, laid, path, small_goods, star, two_hands, wrong_stands,
)

RULES = [
    "least one high", "least one fall", "least one calm", "least all high", "least all fall", "least all calm",
    "below one high", "below one fall", "below one calm", "below all high", "below all fall", "below all calm",
    "shares one", "shares all", "turns high", "turns fall", "turns calm",
]
GUARDED = ["least one", "least all", "below one", "below all", "turns"]


def written(moves):
    return " ".join("".join(move) for move in moves)


class WhatIsARule(unittest.TestCase):
    def test_the_seventeen(self):
        self.assertEqual(len(set(RULES)), 17)
        for rule in RULES:
            with self.subTest(rule=rule):
                self.assertIs(is_rule(rule), True)

    def test_all_else(self):
        for thing in NO_RULES:
            with self.subTest(thing=thing):
                self.assertIs(is_rule(thing), False)

    def test_which_are_let_by(self):
        expected = {
            "least one high": False, "least one fall": True, "least one calm": True,
            "least all high": False, "least all fall": False, "least all calm": False,
            "below one high": False, "below one fall": True, "below one calm": True,
            "below all high": False, "below all fall": False, "below all calm": False,
            "shares one": True, "shares all": True,
            "turns high": False, "turns fall": True, "turns calm": True,
        }
        self.assertEqual({rule: is_let_by(rule) for rule in RULES}, expected)

    def test_which_are_calm(self):
        expected = dict.fromkeys(RULES, False)
        expected.update(dict.fromkeys(
            ["least one calm", "below one calm", "shares one", "shares all", "turns calm"], True))
        self.assertEqual({rule: is_calm(rule) for rule in RULES}, expected)

    def test_true_and_false_themselves_are_told(self):
        for rule in RULES:
            self.assertIs(is_let_by(rule).__class__, bool)
            self.assertIs(is_calm(rule).__class__, bool)

    def test_what_is_no_rule_is_refused(self):
        for thing in NO_RULES:
            for function in [is_let_by, is_calm]:
                with self.subTest(thing=thing, function=function), self.assertRaises(NoRule):
                    function(thing)


class ReckonedByHand(unittest.TestCase):
    def made(self, laid_out, expected, moment=0):
        goods, stand = laid_out
        for rule, moves in expected.items():
            with self.subTest(rule=rule, moment=moment):
                self.assertEqual(written(moves_of(goods, stand, rule, moment)), moves)

    def test_a_path_of_like_strengths(self):
        # Loads 14, 7, 15, 9: a is above b by 7, c above b by 8 and above d by 6.
        laid_out = laid(path(1, 1, 1, 1), p=(9, "a"), q=(4, "a"), r=(1, "a"), s=(7, "b"),
                        t=(8, "c"), u=(5, "c"), v=(2, "c"), w=(9, "d"))
        self.made(laid_out, {
            "least one high": "pab", "least one fall": "qab", "least one calm": "rab",
            "least all high": "pab tcb", "least all fall": "qab ucb", "least all calm": "rab vcb",
            "below one high": "pab", "below one fall": "qab", "below one calm": "rab",
            "below all high": "pab tcb ucd", "below all fall": "qab ucb vcd", "below all calm": "rab vcb",
            "shares one": "rab", "shares all": "rab",
            "turns high": "pab tcd", "turns fall": "qab ucd", "turns calm": "rab vcd",
        })
        self.made(laid_out, {"turns high": "tcb", "turns fall": "ucb", "turns calm": "vcb"}, moment=1)

    def test_three_hands_of_unlike_strengths(self):
        # Heights 6, 1, 4; d is 30 from a to b, 4 from a to c, 9 from c to b.
        web = Web([("a", 2), ("b", 3), ("c", 1)], [("a", "b"), ("a", "c"), ("b", "c")])
        laid_out = laid(web, p=(7, "a"), q=(3, "a"), r=(2, "a"), s=(3, "b"), t=(4, "c"))
        self.made(laid_out, {
            "least one high": "pab", "least one fall": "pab", "least one calm": "qab",
            "least all high": "pab tcb", "least all fall": "pab tcb", "least all calm": "qab",
            "below one high": "pab", "below one fall": "pab", "below one calm": "qab",
            "below all high": "pab qac tcb", "below all fall": "pab rac tcb", "below all calm": "qab",
            "shares one": "rab", "shares all": "rab",
            "turns high": "pab", "turns fall": "pab", "turns calm": "qab",
        })
        self.made(laid_out, {"turns high": "pac", "turns fall": "rac", "turns calm": ""}, moment=1)
        self.made(laid_out, {"turns high": "tcb", "turns fall": "tcb", "turns calm": ""}, moment=2)

    def test_the_first_move_of_all_is_of_a_later_hand(self):
        # Loads 0, 0, 6, 6.
        laid_out = laid(path(1, 1, 1, 1), p=(2, "c"), q=(4, "c"), r=(5, "d"), s=(1, "d"))
        self.made(laid_out, {
            "least one high": "qcb", "least all high": "qcb", "below one fall": "qcb", "below all calm": "pcb",
            "turns high": "",
        })
        self.made(laid_out, {"turns high": "qcb"}, moment=1)

    def test_no_pieces(self):
        for web in [path(1, 2, 3), path(5), Web([("a", 1), ("b", 2)], [])]:
            self.made((Goods(web, []), {}), dict.fromkeys(RULES, ""))

    def test_no_ties(self):
        laid_out = laid(Web([("a", 1), ("b", 1)], []), p=(9, "a"), q=(1, "a"))
        for moment in [0, 1, 7]:
            self.made(laid_out, dict.fromkeys(RULES, ""), moment=moment)

    def test_one_hand_without_neighbours_among_others(self):
        web = Web([("a", 1), ("b", 1), ("c", 1)], [("b", "c")])
        laid_out = laid(web, p=(50, "a"), q=(1, "b"), r=(1, "b"), s=(1, "b"), t=(1, "b"))
        self.made(laid_out, dict.fromkeys(RULES, "qbc"))

    def test_moves_are_tuples_of_texts_in_a_list(self):
        goods, stand = laid(two_hands(), p=(1, "a"), q=(1, "a"), r=(1, "a"), s=(1, "a"))
        for rule in RULES:
            moves = moves_of(goods, stand, rule, 0)
            self.assertIs(moves.__class__, list)
            self.assertEqual(moves, [("p", "a", "b")])


class Guards(unittest.TestCase):
    """The piece p of weight 2, strengths 2 and 3, so that w * (s + r) is 10; fixed pieces bring the loads about."""

    def fit(self, one, own, others, d):
        other = "b" if one == "a" else "a"
        pieces = {"p": (2, one), "y": (own - 2, one, []), "z": (others, other, [])}
        goods, stand = laid(two_hands(2, 3), **{name: row for name, row in pieces.items() if row[0]})
        expected = {"high": d > 0, "fall": 2 * d > 10, "calm": d >= 10}
        for guard, does_fit in expected.items():
            for way in GUARDED:
                with self.subTest(d=d, way=way, guard=guard, one=one):
                    moves = [("p", one, other)] if does_fit else []
                    self.assertEqual(moves_of(goods, stand, f"{way} {guard}", 0), moves)
                    self.assertIs(at_rest(goods, stand, f"{way} {guard}"), not does_fit)

    def test_from_the_weaker_hand(self):
        for own, others, d in [(3, 5, -1), (2, 3, 0), (3, 4, 1), (4, 4, 4), (3, 2, 5), (2, 0, 6),
                               (3, 0, 9), (4, 1, 10), (5, 2, 11)]:
            self.assertEqual(3 * own - 2 * others, d)
            self.fit("a", own, others, d)

    def test_from_the_stronger_hand(self):
        for own, others, d in [(4, 3, -1), (3, 2, 0), (2, 1, 1), (2, 0, 4), (4, 1, 5), (3, 0, 6),
                               (6, 1, 9), (5, 0, 10), (7, 1, 11)]:
            self.assertEqual(2 * own - 3 * others, d)
            self.fit("b", own, others, d)

    def test_an_odd_bound_of_fall(self):
        # w * (s + r) is 5: 2 * d is 4, then 6.
        goods, stand = laid(two_hands(2, 3), p=(1, "a"), y=(3, "a", []), z=(5, "b", []))
        self.assertEqual(moves_of(goods, stand, "least one fall", 0), [])
        goods, stand = laid(two_hands(2, 3), p=(1, "a"), y=(2, "a", []), z=(3, "b", []))
        self.assertEqual(moves_of(goods, stand, "least one fall", 0), [("p", "a", "b")])

    def test_great_numbers_at_the_bound(self):
        # d is w * (s + r) just so, or less by one.
        w = 10 ** 9
        self.assertEqual(1000 * (w + 999000000), w * 1999)
        goods, stand = laid(two_hands(999, 1000), p=(w, "a"), y=(999000000, "a", []))
        self.assertEqual(moves_of(goods, stand, "least one calm", 0), [("p", "a", "b")])
        self.assertEqual(1000 * (w + 999000998) - 999 * 999, w * 1999 - 1)
        goods, stand = laid(two_hands(999, 1000), p=(w, "a"), y=(999000998, "a", []), z=(999, "b", []))
        self.assertEqual(moves_of(goods, stand, "least one calm", 0), [])

    def test_the_share_at_its_bound(self):
        # Each hand has one neighbour, so n is 2: d // 10 must be 2 for the piece of weight 2.
        for own, others, moves in [(7, 1, []), (8, 2, [("p", "a", "b")]), (8, 3, []), (9, 3, [("p", "a", "b")])]:
            goods, stand = laid(two_hands(2, 3), p=(2, "a"), y=(own - 2, "a", []), z=(others, "b", []))
            for rule in ["shares one", "shares all"]:
                with self.subTest(own=own, others=others, rule=rule):
                    self.assertEqual(moves_of(goods, stand, rule, 0), moves)
                    self.assertIs(at_rest(goods, stand, rule), moves == [])


class TheHeaviest(unittest.TestCase):
    def test_of_like_weight_the_first_by_name(self):
        for guard in ["high", "fall", "calm"]:
            for way in GUARDED:
                goods, stand = laid(two_hands(), r=(3, "a"), qb=(3, "a"), qa=(3, "a"), s=(1, "a"), p=(2, "a"))
                with self.subTest(way=way, guard=guard):
                    self.assertEqual(moves_of(goods, stand, f"{way} {guard}", 0), [("qa", "a", "b")])

    def test_the_heaviest_that_may_go(self):
        tie = [("a", "b")]
        goods, stand = laid(path(1, 1, 1), o=(30, "b", []), p=(9, "b", tie), q=(8, "b", [("b", "c")]), r=(7, "b"))
        self.assertEqual(moves_of(goods, stand, "below all high", 0), [("p", "b", "a"), ("q", "b", "c")])
        self.assertEqual(moves_of(goods, stand, "turns high", 0), [("p", "b", "a")])
        self.assertEqual(moves_of(goods, stand, "turns high", 1), [("q", "b", "c")])

    def test_the_heaviest_that_fits(self):
        goods, stand = laid(two_hands(), p=(9, "a"), q=(5, "a"), r=(4, "a"), y=(8, "b"))
        self.assertEqual(moves_of(goods, stand, "least one high", 0), [("p", "a", "b")])
        self.assertEqual(moves_of(goods, stand, "least one fall", 0), [("p", "a", "b")])
        self.assertEqual(moves_of(goods, stand, "least one calm", 0), [("q", "a", "b")])

    def test_nothing_may_go(self):
        goods, stand = laid(path(1, 1, 1), p=(9, "a", []), q=(5, "a", [("b", "c")]), r=(50, "a", []))
        for rule in RULES:
            for moment in [0, 1]:
                self.assertEqual(moves_of(goods, stand, rule, moment), [])
            self.assertIs(at_rest(goods, stand, rule), True)


class Least(unittest.TestCase):
    def test_of_like_heights_the_first_by_name(self):
        # b and c both stand at 2, with other loads.
        goods, stand = laid(star(1, 2, 1), p=(9, "a"), y=(4, "b", []), z=(2, "c", []))
        for rule in ["least one high", "least all high"]:
            self.assertEqual(moves_of(goods, stand, rule, 0), [("p", "a", "b")])

    def test_the_height_counts_not_the_load(self):
        goods, stand = laid(star(1, 1, 10), p=(90, "a"), y=(2, "b", []), z=(10, "c", []))
        self.assertEqual(moves_of(goods, stand, "least all high", 0), [("p", "a", "c")])

    def test_names_sort_as_texts(self):
        web = Web([("m", 1), ("b", 1), ("ab", 1), ("c", 1)], [("m", "b"), ("m", "ab"), ("c", "m")])
        goods, stand = laid(web, p=(9, "m"))
        self.assertEqual(moves_of(goods, stand, "least all high", 0), [("p", "m", "ab")])

    def test_no_other_neighbour_where_no_piece_may_go_to_the_lowest(self):
        goods, stand = laid(star(1, 1, 1), p=(9, "a", [("a", "c")]), z=(1, "c"))
        for rule in ["least one high", "least all high"]:
            self.assertEqual(moves_of(goods, stand, rule, 0), [])
        self.assertEqual(moves_of(goods, stand, "below one high", 0), [("p", "a", "c")])

    def test_the_lowest_neighbour_is_higher(self):
        goods, stand = laid(star(1, 1, 1), p=(1, "a"), y=(2, "b", []), z=(3, "c", []))
        self.assertEqual(moves_of(goods, stand, "least all high", 0), [])

    def test_all_goes_by_the_loads_as_they_stand(self):
        # Each outer hand gives to a, though the first gift alone makes a higher than the others.
        goods, stand = laid(star(1, 1, 1, 1), p=(5, "b"), q=(5, "c"), r=(5, "d"))
        expected = [("p", "b", "a"), ("q", "c", "a"), ("r", "d", "a")]
        self.assertEqual(moves_of(goods, stand, "least all high", 0), expected)
        self.assertEqual(moves_of(goods, stand, "least one high", 0), expected[:1])


class Below(unittest.TestCase):
    def test_a_piece_given_is_not_given_again(self):
        goods, stand = laid(star(1, 1, 1, 1), p=(9, "a"))
        self.assertEqual(moves_of(goods, stand, "below all high", 0), [("p", "a", "b")])
        goods, stand = laid(star(1, 1, 1, 1), p=(9, "a"), q=(9, "a"))
        self.assertEqual(moves_of(goods, stand, "below all high", 0), [("p", "a", "b"), ("q", "a", "c")])

    def test_by_rising_height(self):
        goods, stand = laid(star(1, 1, 1, 1), p=(9, "a"), q=(8, "a"), r=(7, "a"),
                            x=(5, "b", []), y=(3, "c", []), z=(4, "d", []))
        expected = [("p", "a", "c"), ("q", "a", "d"), ("r", "a", "b")]
        self.assertEqual(moves_of(goods, stand, "below all high", 0), expected)

    def test_of_like_heights_by_name(self):
        goods, stand = laid(star(1, 3, 2, 1), p=(9, "a"), q=(8, "a"), r=(7, "a"),
                            x=(6, "b", []), y=(4, "c", []), z=(1, "d", []))
        expected = [("p", "a", "d"), ("q", "a", "b"), ("r", "a", "c")]
        self.assertEqual(moves_of(goods, stand, "below all high", 0), expected)

    def test_hands_of_the_same_height_or_higher_get_nothing(self):
        goods, stand = laid(star(1, 1, 1, 1), p=(3, "a"), q=(2, "a"), x=(5, "b", []), y=(6, "c", []), z=(4, "d", []))
        self.assertEqual(moves_of(goods, stand, "below all high", 0), [("p", "a", "d")])

    def test_what_may_not_go_to_the_one_goes_to_the_next(self):
        goods, stand = laid(star(1, 1, 1), p=(9, "a", [("c", "a")]), q=(5, "a"))
        self.assertEqual(moves_of(goods, stand, "below all high", 0), [("q", "a", "b"), ("p", "a", "c")])

    def test_a_neighbour_for_which_nothing_fits_is_passed_by(self):
        # b is the lower one, but p does not fit by calm (6 against 8); for the strong c it does (500 against 404).
        goods, stand = laid(star(1, 1, 100), p=(4, "a"), x=(6, "a", []), y=(4, "b", []), z=(500, "c", []))
        self.assertEqual(moves_of(goods, stand, "below all calm", 0), [("p", "a", "c")])
        self.assertEqual(moves_of(goods, stand, "below one calm", 0), [("p", "a", "c")])
        self.assertEqual(moves_of(goods, stand, "least all calm", 0), [])
        self.assertEqual(moves_of(goods, stand, "below all high", 0), [("p", "a", "b")])
        goods, stand = laid(star(1, 1, 1), p=(5, "a", [("a", "c")]), y=(4, "a", []), z=(1, "c", []))
        self.assertEqual(moves_of(goods, stand, "below one fall", 0), [("p", "a", "c")])


class Shares(unittest.TestCase):
    def test_several_pieces_along_one_tie(self):
        # d is 24, n is 3: 4 is left at first, 1 behind the piece m.
        goods, stand = laid(path(1, 1, 1), k=(10, "a"), l=(8, "a"), m=(3, "a"), n=(2, "a"), o=(1, "a"))
        self.assertEqual(moves_of(goods, stand, "shares all", 0), [("m", "a", "b"), ("o", "a", "b")])
        self.assertEqual(moves_of(goods, stand, "shares one", 0), [("m", "a", "b")])

    def test_each_neighbour_has_its_own_share(self):
        # n is 4; 6 is left for b, 5 for c, and d is no lower.
        pieces = dict(p=(6, "a"), q=(5, "a"), r=(5, "a"), s=(3, "a"), t=(2, "a"), u=(1, "a"), v=(26, "a"))
        goods, stand = laid(star(1, 1, 1, 1), y=(8, "c", []), z=(48, "d", []), **pieces)
        self.assertEqual(moves_of(goods, stand, "shares all", 0), [("p", "a", "b"), ("q", "a", "c")])
        self.assertEqual(moves_of(goods, stand, "shares one", 0), [("p", "a", "b")])

    def test_by_name_not_by_height(self):
        pieces = dict(p=(6, "a"), q=(5, "a"), r=(5, "a"), s=(3, "a"), t=(2, "a"), u=(1, "a"), v=(26, "a"))
        goods, stand = laid(star(1, 1, 1, 1), y=(8, "b", []), z=(48, "d", []), **pieces)
        self.assertEqual(moves_of(goods, stand, "shares all", 0), [("q", "a", "b"), ("p", "a", "c")])

    def test_of_like_weight_the_first_by_name(self):
        goods, stand = laid(two_hands(), q=(3, "a"), r=(3, "a"), p=(3, "a"), s=(3, "a"), t=(12, "a"))
        # d is 24, n is 2: 6 is left.
        self.assertEqual(moves_of(goods, stand, "shares all", 0), [("p", "a", "b"), ("q", "a", "b")])

    def test_pieces_that_may_not_go_take_nothing_from_the_share(self):
        goods, stand = laid(two_hands(), p=(6, "a", []), q=(5, "a"), r=(1, "a"), s=(12, "a"))
        self.assertEqual(moves_of(goods, stand, "shares all", 0), [("q", "a", "b"), ("r", "a", "b")])

    def test_n_goes_by_the_whole_web(self):
        # The hand that gives has one neighbour, but the web has a hand of three.
        goods, stand = laid(star(1, 1, 1, 1), p=(1, "b"), y=(6, "b", []))
        self.assertEqual(moves_of(goods, stand, "shares all", 0), [])
        goods, stand = laid(star(1, 1, 1, 1), p=(1, "b"), y=(7, "b", []))
        self.assertEqual(moves_of(goods, stand, "shares all", 0), [("p", "b", "a")])

    def test_several_hands_give(self):
        goods, stand = laid(path(1, 1, 1), p=(1, "a"), y=(5, "a", []), q=(1, "c"), z=(5, "c", []))
        self.assertEqual(moves_of(goods, stand, "shares all", 0), [("p", "a", "b"), ("q", "c", "b")])
        self.assertEqual(moves_of(goods, stand, "shares one", 0), [("p", "a", "b")])


class Turns(unittest.TestCase):
    def test_rows_by_the_rest_of_the_moment(self):
        # Rows: a-b with c-d, then b-c.
        goods, stand = laid(path(1, 1, 1, 1), p=(4, "b"), q=(4, "d"))
        for moment in [0, 2, 4, 2998, 3000, 10 ** 30]:
            self.assertEqual(moves_of(goods, stand, "turns fall", moment), [])
            self.assertEqual(moves_of(goods, stand, "turns high", moment), [("p", "b", "a"), ("q", "d", "c")])
        for moment in [1, 3, 5, 2999, 3001, 10 ** 30 + 1]:
            self.assertEqual(moves_of(goods, stand, "turns fall", moment), [])
            self.assertEqual(moves_of(goods, stand, "turns high", moment), [("p", "b", "c")])

    def test_three_rows(self):
        web = Web([("a", 1), ("b", 1), ("c", 1)], [("a", "b"), ("a", "c"), ("b", "c")])
        goods, stand = laid(web, p=(4, "b"), q=(1, "b"), r=(1, "c"))
        expected = {"high": ["pba", "rca", "pbc"], "fall": ["pba", "", "qbc"], "calm": ["qba", "", "qbc"]}
        for guard, rows in expected.items():
            for moment, moves in enumerate(rows * 3):
                self.assertEqual(written(moves_of(goods, stand, f"turns {guard}", moment)), moves)

    def test_the_order_is_that_of_the_row(self):
        goods, stand = laid(path(1, 1, 1, 1, 1, 1), p=(3, "f"), q=(3, "c"), r=(3, "b"))
        self.assertEqual(written(moves_of(goods, stand, "turns high", 0)), "rba qcd pfe")

    def test_like_heights_give_nothing(self):
        goods, stand = laid(two_hands(2, 3), p=(2, "a"), q=(3, "b"))
        for rule in ["turns high", "turns fall", "turns calm"]:
            self.assertEqual(moves_of(goods, stand, rule, 0), [])


class OtherRulesHangOnNoMoment(unittest.TestCase):
    def test_the_same_at_all_moments(self):
        goods, stand = laid(path(1, 2, 3), p=(30, "a"), q=(4, "a"), r=(5, "c"), s=(1, "a"))
        for rule in RULES[:14]:
            for moment in [1, 2, 3000, 10 ** 40]:
                self.assertEqual(moves_of(goods, stand, rule, moment), moves_of(goods, stand, rule, 0))


class Rest(unittest.TestCase):
    def test_even_loads(self):
        goods, stand = laid(path(1, 2, 3), p=(1, "a"), q=(2, "b"), r=(3, "c"))
        for rule in RULES:
            self.assertIs(at_rest(goods, stand, rule), True)

    def test_far_from_even(self):
        goods, stand = laid(path(1, 2, 3), p=(1, "a"), q=(99, "a"))
        for rule in RULES:
            self.assertIs(at_rest(goods, stand, rule), False)

    def test_one_piece_between_two_hands(self):
        goods, stand = laid(two_hands(), p=(5, "a"))
        self.assertEqual([rule for rule in RULES if not at_rest(goods, stand, rule)],
                         ["least one high", "least all high", "below one high", "below all high", "turns high"])

    def test_least_rests_where_below_does_not(self):
        goods, stand = laid(star(1, 1, 1), p=(9, "a", [("a", "c")]), z=(1, "c"))
        for guard, rests in [("high", False), ("fall", True), ("calm", True)]:
            for mode in ["one", "all"]:
                self.assertIs(at_rest(goods, stand, f"least {mode} {guard}"), True)
                self.assertIs(at_rest(goods, stand, f"below {mode} {guard}"), rests)

    def test_turns_look_at_all_rows(self):
        # Nothing moves along a-b and c-d, the row of moment 0.
        goods, stand = laid(path(1, 1, 1, 1), p=(1, "a"), q=(1, "b"), r=(9, "c"), s=(9, "d"), t=(1, "c"), u=(1, "d"))
        for guard in ["high", "fall", "calm"]:
            rule = f"turns {guard}"
            self.assertEqual(moves_of(goods, stand, rule, 0), [])
            self.assertNotEqual(moves_of(goods, stand, rule, 1), [])
            self.assertIs(at_rest(goods, stand, rule), False)

    def test_turns_with_a_move_in_the_last_row_alone(self):
        web = Web([("a", 1), ("b", 1), ("c", 1)], [("a", "b"), ("a", "c"), ("b", "c")])
        goods, stand = laid(web, p=(4, "c", [("b", "c")]), q=(4, "c", []), r=(9, "a", []))
        for guard in ["high", "fall", "calm"]:
            self.assertEqual([moves_of(goods, stand, f"turns {guard}", moment) for moment in [0, 1]], [[], []])
            self.assertIs(at_rest(goods, stand, f"turns {guard}"), False)

    def test_turns_without_ties(self):
        goods, stand = laid(Web([("a", 1), ("b", 1)], []), p=(9, "a"))
        for rule in RULES:
            self.assertIs(at_rest(goods, stand, rule), True)


class Refusals(unittest.TestCase):
    def refused(self, refusal, function, *given):
        with self.subTest(function=function, given=given[1:]), self.assertRaises(refusal):
            function(small_goods(), *given)

    def test_no_rule(self):
        for rule in NO_RULES:
            self.refused(NoRule, moves_of, SMALL_STAND, rule, 0)
            self.refused(NoRule, at_rest, SMALL_STAND, rule)

    def test_no_stand(self):
        for stand in wrong_stands():
            for rule in ["least one high", "shares all", "turns calm"]:
                self.refused(NoStand, moves_of, stand, rule, 0)
                self.refused(NoStand, at_rest, stand, rule)

    def test_no_moment(self):
        for moment in NO_MOMENTS:
            for rule in RULES:
                self.refused(NoMoment, moves_of, SMALL_STAND, rule, moment)

    def test_no_moment_without_ties_or_pieces(self):
        goods = Goods(path(1), [])
        for rule in RULES:
            with self.assertRaises(NoMoment):
                moves_of(goods, {}, rule, -1)

    def test_moments_from_nought_on(self):
        for rule in RULES:
            for moment in [0, 1, 2999, 3000, 3001]:
                self.assertIs(moves_of(small_goods(), SMALL_STAND, rule, moment).__class__, list)

    def test_their_order(self):
        for rule in ["least one", None, [], "turns high "]:
            for stand in [{}, None, [], {"a": "b", "q": "d"}]:
                for moment in [-1, None, True, "0"]:
                    self.refused(NoRule, moves_of, stand, rule, moment)
                    self.refused(NoRule, moves_of, stand, rule, 0)
                    self.refused(NoRule, moves_of, SMALL_STAND, rule, moment)
                    self.refused(NoStand, moves_of, stand, "turns high", moment)
                self.refused(NoRule, at_rest, stand, rule)

    def test_all_are_of_the_program(self):
        for given in [(SMALL_STAND, None, 0), (None, "shares one", 0), (SMALL_STAND, "shares one", None)]:
            self.refused(EvenError, moves_of, *given)


class WhatIsToldAndWhatIsHandedIn(unittest.TestCase):
    def test_what_is_told_is_the_askers_own(self):
        goods, stand = laid(path(1, 1, 1), p=(9, "a"), q=(8, "a"), r=(1, "a"), s=(1, "a"))
        for rule in RULES:
            first, second = moves_of(goods, stand, rule, 0), moves_of(goods, stand, rule, 0)
            self.assertIsNot(first, second)
            self.assertIsNot(first[0], second[0])
            first.clear()
            self.assertEqual(moves_of(goods, stand, rule, 0), second)

    def test_what_is_handed_in_stays(self):
        goods, stand = laid(path(1, 1, 1), r=(9, "a"), q=(8, "a", [("b", "a")]), p=(1, "b"))
        kept = copy.deepcopy(stand)
        for rule in RULES:
            moves_of(goods, stand, rule, 0)
            at_rest(goods, stand, rule)
        self.assertEqual(list(stand.items()), list(kept.items()))
        self.assertEqual(goods.web.turns(), [[("a", "b")], [("b", "c")]])

    def test_the_order_of_the_dict_is_nothing(self):
        for seed in range(40):
            goods, stand = by_chance(seed)
            for rule in RULES:
                turned = dict(reversed(stand.items()))
                self.assertEqual(moves_of(goods, turned, rule, 1), moves_of(goods, stand, rule, 1))


class AgainstTheSecondReckoning(unittest.TestCase):
    def test_many(self):
        for seed in range(500):
            goods, stand = by_chance(seed)
            for rule in RULES:
                for moment in range(oracle.rounds(goods, rule) + 1):
                    with self.subTest(seed=seed, rule=rule, moment=moment):
                        moves = moves_of(goods, stand, rule, moment)
                        self.assertEqual(moves, oracle.moves_of(goods, stand, rule, moment))
                        self.assertEqual(judged(goods, stand, moves)[0], "good")
                with self.subTest(seed=seed, rule=rule):
                    self.assertIs(at_rest(goods, stand, rule), oracle.at_rest(goods, stand, rule))

    def test_eight_hands_and_thirty_pieces(self):
        for seed in range(1000, 1020):
            goods, stand = by_chance(seed, hands=8, pieces=30)
            for rule in RULES:
                with self.subTest(seed=seed, rule=rule):
                    self.assertEqual(moves_of(goods, stand, rule, 3000), oracle.moves_of(goods, stand, rule, 3000))


if __name__ == "__main__":
    unittest.main()
