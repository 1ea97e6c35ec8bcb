"""[2], [3] and the interface over the whole program."""

import copy
import importlib
import inspect
import unittest

from evenpieces import errors
from evenpieces.aparts import apart_by
from evenpieces.bounds import gap_of, rest_by, worst_of
from evenpieces.desk import Desk
from evenpieces.errors import EvenError
from evenpieces.fewests import fewest_moves, reached_by
from evenpieces.goods import Goods
from evenpieces.moves import judged, moved
from evenpieces.papers import paper_fault, paper_of
from evenpieces.rules import is_calm, is_let_by, moves_of
from evenpieces.runs import run_of, stand_after, sums_of
from evenpieces.shuts import shut_fault, shut_of
from evenpieces.stands import heights, loads, pieces_at, spread, steepest, sum_of
from evenpieces.texts import goods_text, moves_text, read_goods, read_moves, read_web, web_text
from evenpieces.webs import Web
from evenpieces.yards import Yard
from oracle import CALM, LET_BY, RULES
from samples import by_chance, laid, path, two_hands

# By each module its functions, or classes with their methods, and the arguments of each by their places.
INTERFACE = {
    "webs": {"Web": "hands ties", "Web.hands": "", "Web.neighbours": "hand", "Web.ties": "", "Web.turns": "",
             "Web.strength": "hand", "Web.most_neighbours": "", "Web.are_tied": "one other"},
    "goods": {"Goods": "web pieces", "Goods.names": "", "Goods.weight": "piece", "Goods.ways": "piece",
              "Goods.may_go": "piece one other", "Goods.are_free": ""},
    "stands": {"loads": "goods stand", "heights": "goods stand", "pieces_at": "goods stand hand",
               "sum_of": "goods stand", "spread": "goods stand", "steepest": "goods stand"},
    "moves": {"judged": "goods stand moves", "moved": "goods stand moves"},
    "rules": {"is_rule": "thing", "is_let_by": "rule", "is_calm": "rule", "moves_of": "goods stand rule moment",
              "at_rest": "goods stand rule"},
    "runs": {"stand_after": "goods stand rule moments", "run_of": "goods stand rule most",
             "sums_of": "goods stand rule moments"},
    "bounds": {"rest_by": "goods stand rule", "gap_of": "web weight rule", "worst_of": "weight rule"},
    "papers": {"paper_of": "goods stand rule most", "paper_fault": "goods stand rule paper"},
    "yards": {"Yard": "web rule", "Yard.come": "name weight hand ways", "Yard.go": "name", "Yard.tick": "moments",
              "Yard.log": "", "Yard.goods": "", "Yard.stand": "", "Yard.loads": "", "Yard.heights": "",
              "Yard.spread": "", "Yard.bound": "", "Yard.at_rest": ""},
    "fewests": {"fewest_moves": "goods stand limit most", "reached_by": "goods stand count"},
    "texts": {"web_text": "web", "goods_text": "goods stand", "moves_text": "moves", "read_web": "text",
              "read_goods": "text", "read_moves": "text"},
    "desk": {"Desk": "", "Desk.say": "row"},
    "shuts": {"shut_of": "goods stand limit count", "shut_fault": "goods stand limit count shut"},
    "aparts": {"apart_by": "web weight rule one other"},
}

REFUSALS = ["NoWeb", "NoHand", "NoGoods", "NoPiece", "NoStand", "NoMove", "NoRule", "NotLetBy", "NoMoment", "NoMost",
            "NoWeight", "NoFraction", "NoText", "NoRow", "NoYard"]


def some():
    return laid(path(1, 2, 1), p=(4, "a"), q=(1, "b", [("b", "c")]), r=(3, "a"))


def some_yard():
    yard = Yard(path(1, 2, 1), "below all high")
    yard.come("p", 4, "a")
    yard.come("q", 1, "b", [("b", "c")])
    yard.tick(2)
    return yard


def due():
    """For each refusal a call at which it is due."""
    goods, stand = some()
    return {
        "NoWeb": lambda: Web([], []),
        "NoHand": lambda: goods.web.strength("x"),
        "NoGoods": lambda: Goods(goods.web, [("p", 0, None)]),
        "NoPiece": lambda: goods.weight("x"),
        "NoStand": lambda: loads(goods, {}),
        "NoMove": lambda: moved(goods, stand, [("p", "a", "c")]),
        "NoRule": lambda: is_let_by("turns"),
        "NotLetBy": lambda: rest_by(goods, stand, "turns high"),
        "NoMoment": lambda: stand_after(goods, stand, "turns high", -1),
        "NoMost": lambda: run_of(goods, stand, "turns high", -1),
        "NoWeight": lambda: gap_of(goods.web, 0, "turns fall"),
        "NoFraction": lambda: fewest_moves(goods, stand, (2, 4), 1),
        "NoText": lambda: read_web("hand"),
        "NoRow": lambda: Desk().say("x"),
        "NoYard": lambda: Desk().say("loads"),
    }


def asked():
    """Calls that tell a list, a dict or a tuple, each of things that stay the same."""
    goods, stand = some()
    web, yard = goods.web, some_yard()
    calls = [
        web.hands, web.ties, web.turns, lambda: web.neighbours("b"), goods.names, lambda: goods.ways("q"),
        lambda: loads(goods, stand), lambda: heights(goods, stand), lambda: pieces_at(goods, stand, "a"),
        lambda: spread(goods, stand), lambda: steepest(goods, stand),
        lambda: judged(goods, stand, [("p", "a", "b")]), lambda: judged(goods, stand, [("p", "a", "c")]),
        lambda: judged(goods, stand, None), lambda: moved(goods, stand, [("p", "a", "b")]),
        lambda: gap_of(web, 4, "turns calm"), lambda: worst_of(4, "shares one")[1:],
        lambda: fewest_moves(goods, stand, (3, 1), 999), lambda: fewest_moves(goods, stand, (0, 1), 999),
        lambda: fewest_moves(goods, stand, (0, 1), 1), lambda: reached_by(goods, stand, 2),
        lambda: read_goods(goods_text(goods, stand))[1:], lambda: read_moves("p a b\nq b c"),
        lambda: shut_of(goods, stand, (0, 1), 3), lambda: shut_fault(goods, stand, (0, 1), 3, []),
        lambda: shut_fault(goods, stand, (0, 1), 3, None), lambda: shut_fault(goods, stand, (9, 1), 1, [(("a", "b", "a"), 0)]),
        lambda: apart_by(web, 4, "least one fall", "a", "c"), lambda: apart_by(web, 4, "least one fall", "a", "a"),
        yard.log, yard.stand, yard.loads, yard.heights, yard.spread, yard.bound, lambda: yard.goods().names(),
        lambda: yard.goods().ways("q"), lambda: yard.tick(0),
    ]
    for rule in RULES:
        calls += [
            lambda rule=rule: moves_of(goods, stand, rule, 0), lambda rule=rule: stand_after(goods, stand, rule, 2),
            lambda rule=rule: run_of(goods, stand, rule, 50), lambda rule=rule: run_of(goods, stand, rule, 0),
            lambda rule=rule: sums_of(goods, stand, rule, 2), lambda rule=rule: paper_of(goods, stand, rule, 50),
            lambda rule=rule: paper_fault(goods, stand, rule, ("rest", [0])),
            lambda rule=rule: paper_fault(goods, stand, rule, None),
            lambda rule=rule: paper_fault(goods, stand, rule, ("ring", 0, 1)),
        ]
    return calls


def spoil(thing):
    """Changes all that can be changed of what was told."""
    if isinstance(thing, (list, tuple)):
        for part in thing:
            spoil(part)
    if isinstance(thing, dict):
        for part in thing.values():
            spoil(part)
        thing.clear()
        thing["x"] = "x"
    if isinstance(thing, list):
        thing.clear()
        thing.append("x")


class Interface(unittest.TestCase):
    def test_names_and_arguments(self):
        for module, rows in INTERFACE.items():
            held = importlib.import_module("evenpieces." + module)
            for name, arguments in rows.items():
                with self.subTest(module=module, name=name):
                    found = held
                    for part in name.split("."):
                        found = getattr(found, part)
                    names = list(inspect.signature(found).parameters)
                    self.assertEqual([word for word in names if word != "self"], arguments.split())

    def test_fields(self):
        web = two_hands()
        self.assertIs(Goods(web, []).web, web)
        yard = Yard(web, "turns high")
        self.assertEqual((yard.web, yard.rule, yard.moment), (web, "turns high", 0))

    def test_truths(self):
        for rule in RULES:
            self.assertIs(is_let_by(rule), rule in LET_BY)
            self.assertIs(is_calm(rule), rule in CALM)


class Refusals(unittest.TestCase):
    def test_there_are_fifteen(self):
        classes = [name for name, found in vars(errors).items() if inspect.isclass(found)]
        self.assertEqual(sorted(classes), sorted(REFUSALS + ["EvenError"]))
        self.assertEqual(sorted(due()), sorted(REFUSALS))

    def test_each_is_met_and_is_none_of_the_others(self):
        for name, call in due().items():
            with self.subTest(refusal=name):
                for kind in [EvenError, ValueError, getattr(errors, name)]:
                    with self.assertRaises(kind) as caught:
                        call()
                    self.assertIs(caught.exception.__class__, getattr(errors, name))
                for other in REFUSALS:
                    if other != name:
                        self.assertNotIsInstance(caught.exception, getattr(errors, other))

    def test_each_is_caught_by_its_name_alone(self):
        for name, call in due().items():
            for other in REFUSALS:
                if other != name:
                    try:
                        call()
                    except getattr(errors, other):
                        self.fail((name, other))
                    except EvenError:
                        pass

    def test_the_fields_of_a_move_that_cannot_be_made(self):
        with self.assertRaises(errors.NoMove) as caught:
            due()["NoMove"]()
        self.assertEqual((caught.exception.k, caught.exception.reason), (0, "tie"))


class WhatIsTold(unittest.TestCase):
    def test_asked_again_the_same(self):
        for place, call in enumerate(asked()):
            with self.subTest(place=place):
                self.assertEqual(call(), call())

    def test_what_was_told_and_changed_changes_nothing(self):
        calls = asked()
        kept = [copy.deepcopy(call()) for call in calls]
        for place, call in enumerate(calls):
            told = call()
            self.assertIn(told.__class__, [list, dict, tuple, None.__class__])
            spoil(told)
            with self.subTest(place=place):
                self.assertEqual([other() for other in calls[place:]], kept[place:])
        self.assertEqual([call() for call in calls], kept)

    def test_each_is_a_new_one(self):
        for place, call in enumerate(asked()):
            first, second = call(), call()
            if first is not None and first != ():
                with self.subTest(place=place):
                    self.assertIsNot(first, second)

    def test_what_is_handed_in_is_not_changed(self):
        goods, stand = some()
        limit, shut, paper, moves = (1, 1), [(("a", "b", "a"), 0)], ("rest", [1, 2]), [("p", "a", "b")]
        given = [stand, limit, shut, paper, moves]
        kept = copy.deepcopy(given)
        for rule in RULES:
            paper_fault(goods, stand, rule, paper)
            run_of(goods, stand, rule, 9)
        shut_fault(goods, stand, limit, 3, shut)
        fewest_moves(goods, stand, limit, 99)
        judged(goods, stand, moves)
        moves_text(moves)
        self.assertEqual(given, kept)
        self.assertEqual(list(stand), ["p", "q", "r"])

    def test_fractions_are_in_least_numbers(self):
        for seed in range(40):
            goods, stand = by_chance(seed)
            told = [spread(goods, stand), steepest(goods, stand), reached_by(goods, stand, 0)[1]]
            told += list(heights(goods, stand).values())
            told += [gap_of(goods.web, 6, rule) for rule in LET_BY]
            told += [apart_by(goods.web, 6, rule, "a", hand) for rule in LET_BY for hand in goods.web.hands()]
            for fraction in told:
                if fraction is not None:
                    # A limit is refused that is no fraction.
                    self.assertIn(fewest_moves(goods, stand, fraction, 1)[0], ["moves", "none", "more"])


class ThePromise(unittest.TestCase):
    def test_no_piece_is_lost_and_all_moves_are_good(self):
        for seed in range(60):
            goods, stand = by_chance(seed)
            for rule in RULES:
                there = dict(stand)
                for moment in range(4):
                    moves = moves_of(goods, there, rule, moment)
                    answer = judged(goods, there, moves)
                    self.assertEqual(answer[0], "good", (seed, rule, moment))
                    self.assertEqual(len({move[0] for move in moves}), len(moves))
                    there = answer[1]
                    self.assertEqual(there, stand_after(goods, stand, rule, moment + 1))
                self.assertEqual(sorted(there), goods.names())

    def test_one_thing_told_in_many_ways(self):
        for seed in range(40):
            goods, stand = by_chance(seed, pieces=1 + seed % 8)
            for rule in LET_BY:
                told = run_of(goods, stand, rule, 3000)
                with self.subTest(seed=seed, rule=rule):
                    self.assertEqual(told[0], "rest")
                    self.assertLessEqual(told[1], rest_by(goods, stand, rule))
                    sums = sums_of(goods, stand, rule, told[1])
                    self.assertEqual(paper_of(goods, stand, rule, 3000), ("rest", sums))
                    self.assertIsNone(paper_fault(goods, stand, rule, ("rest", sums)))
                    self.assertEqual(sums[-1], sum_of(goods, told[2]))
                    again = read_goods(goods_text(goods, told[2]))
                    self.assertEqual(run_of(*again, rule, 0), ("rest", 0, told[2]))

    def test_a_yard_goes_as_a_run(self):
        for seed in range(30):
            goods, stand = by_chance(seed, pieces=1 + seed % 8)
            for rule in RULES:
                yard, desk = Yard(goods.web, rule), Desk()
                desk.say("yard " + web_text(goods.web).replace("\n", ", ") + "; " + rule)
                for name in goods.names():
                    yard.come(name, goods.weight(name), stand[name], goods.ways(name))
                    row = [line for line in goods_text(goods, stand).split("\n") if line.startswith(f"piece {name} ")]
                    desk.say(row[0].replace("piece", "come", 1))
                moves = yard.tick(5)
                with self.subTest(seed=seed, rule=rule):
                    self.assertEqual(yard.stand(), stand_after(goods, stand, rule, 5))
                    self.assertEqual(moved(goods, stand, moves), yard.stand())
                    self.assertEqual(desk.say("tick 5"), moves_text(moves).replace("\n", "; ") or "none")
                    self.assertEqual(desk.say("show").replace(", ", "\n"), goods_text(goods, yard.stand()))


if __name__ == "__main__":
    unittest.main()
