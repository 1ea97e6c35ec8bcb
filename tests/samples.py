"""Webs, goods and stands that several tests take, and wrong ones."""

import itertools
import random

from evenpieces.goods import Goods
from evenpieces.webs import Web
from oddments import EqualToAll, NO_LISTS, NO_NAMES
from oracle import RULES

# Near to a rule, or of another kind, but none.
NO_RULES = [
    "", " ", "least", "below", "shares", "turns", "one", "high", "least one", "least high", "below all", "below calm",
    "least fall one", "one least fall", "shares one high", "shares all calm", "shares calm", "turns one high",
    "turns all", "turns one", "turns high high", "least least one high", "least one one high", "least one high high",
    "least one highs", "lest one high", "leasts one high", "least some high", "least two fall", "below none calm",
    "share one", "share all", "shares ones", "turn high", "turns higher", "turns falls", "turns calmly",
    "least one hig", "least one-high", "least,one,high", "leastonehigh", "least onehigh", "least\tone high",
    "least one\nhigh",
    None, True, False, 0, 1, -1, [], ["least one high"], ["least", "one", "high"], {}, {"turns high": 1}, (),
    ("turns", "high"), ("turns high",), {"turns high"}, b"turns high", object(), EqualToAll(), str, len,
]
NO_RULES += [change(rule) for rule in RULES for change in [
    lambda rule: rule + " ", lambda rule: " " + rule, lambda rule: rule + "\n", lambda rule: "\n" + rule,
    lambda rule: rule.replace(" ", "  ", 1), lambda rule: rule.replace(" ", "  "), lambda rule: rule.replace(" ", "\n"),
    lambda rule: rule.upper(), lambda rule: rule.title(), lambda rule: rule.capitalize(), lambda rule: rule[:-1],
    lambda rule: rule[1:], lambda rule: rule + " one", lambda rule: rule + " " + rule,
    lambda rule: " ".join(reversed(rule.split())),
]]

# None of these is a moment, a number of moments, or a most.
NO_MOMENTS = [
    -1, -2, -3000, -10 ** 30, True, False, None, "0", "1", "", [], [0], {}, (), (0,), {0}, b"0", object(),
    EqualToAll(), int,
]


def two_hands(s=1, r=1):
    return Web([("a", s), ("b", r)], [("a", "b")])


def path(*strengths):
    """The hands a, b, .. of these strengths, each tied to the next."""
    names = "abcdefgh"[:len(strengths)]
    return Web(list(zip(names, strengths)), list(zip(names, names[1:])))


def star(*strengths):
    """The hands a, b, .. of these strengths, a tied to all others."""
    names = "abcdefgh"[:len(strengths)]
    return Web(list(zip(names, strengths)), [("a", name) for name in names[1:]])


def laid(web, **pieces):
    """Free pieces, each written as a weight with a hand, as p=(3, "a"), or with ways behind: goods and stand."""
    rows = [(name, piece[0], piece[2] if len(piece) > 2 else None) for name, piece in pieces.items()]
    return Goods(web, rows), {name: piece[1] for name, piece in pieces.items()}


def small_goods():
    """Pieces named like a hand, too, so that what passes for "a" might pass for it."""
    return Goods(path(1, 2, 3), [("a", 5, None), ("q", 4, [("b", "c")])])


SMALL_STAND = {"a": "b", "q": "c"}


def wrong_stands():
    """What is no stand of small_goods()."""
    found = [
        {}, {"a": "b"}, {"q": "c"}, {"a": "b", "q": "c", "r": "a"}, {"a": "b", "q": "c", "": "a"},
        {"a": "b", "q": "c", None: "a"}, {"a": "b", "r": "c"}, {"r": "b", "s": "c"}, {"a": "b", "Q": "c"},
        {"a": "b", "q ": "c"}, {"a": "b", 1: "c"}, {"a": "b", None: "c"}, {"a": "b", ("q",): "c"},
        {EqualToAll(): "b", "q": "c"}, {"b": "a", "c": "q"}, {"a": "c", "q": ["b"]}, {"a": ("b",), "q": "c"},
        [("a", "b"), ("q", "c")], (("a", "b"), ("q", "c")), ["a", "q"], ("b", "c"), {"a", "q"}, "bc", "aq", b"bc",
    ]
    for hand in NO_NAMES + ["d", "q", "ab", "bb"]:
        found.append({"a": hand, "q": "c"})
        found.append({"a": "b", "q": hand})
    return found + [thing for thing in NO_LISTS if thing != {}] + [[], EqualToAll()]


def piece_names(count):
    letters = itertools.product("pqrstu", "abcde")
    return [one + other for one, other in itertools.islice(letters, count)]


def some_ways(chance, web):
    ties = web.ties()
    if chance.random() < 0.6:
        return None
    return [tie if chance.random() < 0.5 else tie[::-1] for tie in chance.sample(ties, chance.randint(0, len(ties)))]


def by_chance(seed, hands=None, pieces=None):
    """Goods and a stand, the same for the same seed; most are small, so that like heights and weights are many."""
    chance = random.Random(seed)
    names = "abcdefgh"[:hands or chance.randint(1, 6)]
    strongest = chance.choice([1, 2, 4, 4, 1000])
    pairs = list(itertools.combinations(names, 2))
    ties = chance.sample(pairs, chance.randint(min(1, len(pairs)), len(pairs)))
    web = Web([(name, chance.randint(1, strongest)) for name in names], ties)
    heaviest = chance.choice([1, 3, 10, 40, 10 ** 9])
    goods = Goods(web, [(name, chance.randint(1, heaviest), some_ways(chance, web))
                        for name in piece_names(pieces or chance.randint(0, 12))])
    near = chance.sample(names, chance.randint(1, len(names)))
    return goods, {name: chance.choice(near) for name in goods.names()}
