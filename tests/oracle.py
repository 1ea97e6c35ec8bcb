"""A second reckoning of points [10] to [28], [35], [36] and [41] to [45], straight from the document's words, for the tests to compare with.

It is written apart from the package, with Python's fractions and no care for speed.
"""

import itertools
import math
from fractions import Fraction

GUARDS = ["high", "fall", "calm"]
RULES = (
    [f"{way} {mode} {guard}" for way in ["least", "below"] for mode in ["one", "all"] for guard in GUARDS]
    + [f"shares {mode}" for mode in ["one", "all"]]
    + [f"turns {guard}" for guard in GUARDS]
)
LET_BY = [
    "least one fall", "least one calm", "below one fall", "below one calm",
    "shares one", "shares all", "turns fall", "turns calm",
]
CALM = ["least one calm", "below one calm", "shares one", "shares all", "turns calm"]


def pair(fraction):
    return (fraction.numerator, fraction.denominator)


def load(goods, stand, hand):
    return sum(goods.weight(piece) for piece in stand if stand[piece] == hand)


def height(goods, stand, hand):
    return Fraction(load(goods, stand, hand), goods.web.strength(hand))


def sum_of(goods, stand):
    hands = goods.web.hands()
    multiple = math.lcm(*[goods.web.strength(hand) for hand in hands])
    return sum(load(goods, stand, hand) ** 2 * (multiple // goods.web.strength(hand)) for hand in hands)


def spread(goods, stand):
    pairs = itertools.product(goods.web.hands(), repeat=2)
    return pair(max(height(goods, stand, one) - height(goods, stand, other) for one, other in pairs))


def steepest(goods, stand):
    pairs = itertools.permutations(goods.web.hands(), 2)
    apart = [height(goods, stand, one) - height(goods, stand, other)
             for one, other in pairs if goods.web.are_tied(one, other)]
    return pair(max(apart, default=Fraction(0)))


def fits(goods, stand, piece, one, other, guard):
    strong, weak = goods.web.strength(one), goods.web.strength(other)
    apart = height(goods, stand, one) - height(goods, stand, other)
    # The piece alone lowers one and raises other by this much together.
    step = Fraction(goods.weight(piece), strong) + Fraction(goods.weight(piece), weak)
    return {"high": apart > 0, "fall": 2 * apart > step, "calm": apart >= step}[guard]


def may_give(goods, stand, one, other, given):
    pieces = [piece for piece in stand if stand[piece] == one and piece not in given]
    pieces = [piece for piece in pieces if goods.may_go(piece, one, other)]
    return sorted(sorted(pieces), key=goods.weight, reverse=True)


def heaviest(goods, stand, one, other, guard, given=()):
    pieces = may_give(goods, stand, one, other, given)
    return [(piece, one, other) for piece in pieces if fits(goods, stand, piece, one, other, guard)][:1]


def gives(goods, stand, hand, words):
    around = sorted(goods.web.neighbours(hand))
    rising = sorted(around, key=lambda other: height(goods, stand, other))
    lower = [other for other in rising if height(goods, stand, other) < height(goods, stand, hand)]
    if words[0] == "least":
        return heaviest(goods, stand, hand, rising[0], words[2]) if rising else []
    moves = []
    if words[0] == "below":
        for other in lower:
            moves += heaviest(goods, stand, hand, other, words[2], [move[0] for move in moves])
        return moves
    for other in sorted(lower):
        s, r = goods.web.strength(hand), goods.web.strength(other)
        n = 1 + max(len(goods.web.neighbours(each)) for each in goods.web.hands())
        d = load(goods, stand, hand) * r - load(goods, stand, other) * s
        left = d // ((s + r) * n)
        for piece in may_give(goods, stand, hand, other, [move[0] for move in moves]):
            if goods.weight(piece) <= left:
                left -= goods.weight(piece)
                moves.append((piece, hand, other))
    return moves


def turn(goods, stand, row, guard):
    moves = []
    for one, other in row:
        if height(goods, stand, one) > height(goods, stand, other):
            moves += heaviest(goods, stand, one, other, guard)
        elif height(goods, stand, one) < height(goods, stand, other):
            moves += heaviest(goods, stand, other, one, guard)
    return moves


def moves_of(goods, stand, rule, moment):
    words = rule.split()
    if words[0] == "turns":
        rows = goods.web.turns()
        return turn(goods, stand, rows[moment % len(rows)], words[1]) if rows else []
    moves = [move for hand in sorted(goods.web.hands()) for move in gives(goods, stand, hand, words)]
    return moves[:1] if words[1] == "one" else moves


def rounds(goods, rule):
    return len(goods.web.turns()) or 1 if rule.startswith("turns") else 1


def at_rest(goods, stand, rule):
    return all(moves_of(goods, stand, rule, moment) == [] for moment in range(rounds(goods, rule)))


def stands_of(goods, stand, rule, moments):
    stands = [dict(stand)]
    for moment in range(moments):
        after = dict(stands[-1])
        after.update({piece: other for piece, one, other in moves_of(goods, stands[-1], rule, moment)})
        stands.append(after)
    return stands


def run_of(goods, stand, rule, most):
    stands = stands_of(goods, stand, rule, most)
    for t, there in enumerate(stands):
        if at_rest(goods, there, rule):
            return ("rest", t, there)
    for t, there in enumerate(stands):
        for long in range(rounds(goods, rule), most - t + 1, rounds(goods, rule)):
            if stands[t + long] == there:
                return ("ring", t, long)
    return ("more",)


def rest_by(goods, stand, rule):
    web = goods.web
    multiple = math.lcm(*[web.strength(hand) for hand in web.hands()])
    whole = sum(goods.weight(piece) for piece in goods.names())
    least = math.ceil(Fraction(multiple * whole * whole, sum(web.strength(hand) for hand in web.hands())))
    return (sum_of(goods, stand) - least) * rounds(goods, rule)


def gap_of_tie(web, weight, rule, one, other):
    s, r = web.strength(one), web.strength(other)
    n = 1 + max(len(web.neighbours(hand)) for hand in web.hands())
    if rule.endswith("fall"):
        return Fraction(weight * (s + r), 2 * s * r)
    if rule.endswith("calm"):
        return Fraction(weight * (s + r) - 1, s * r)
    return Fraction(weight * (s + r) * n - 1, s * r)


def gap_of(web, weight, rule):
    return pair(max([gap_of_tie(web, weight, rule, one, other) for one, other in web.ties()], default=Fraction(0)))


def fault_of_rest(goods, stand, rule, sums):
    stands = stands_of(goods, stand, rule, len(sums) - 1)
    last = len(sums) - 1
    for k in range(len(sums)):
        if sums[k] != sum_of(goods, stands[k]):
            return ("sum", k)
        if k < last and at_rest(goods, stands[k], rule):
            return ("rests", k)
        if k == last and not at_rest(goods, stands[k], rule):
            return ("goes", k)
        if k < last and moves_of(goods, stands[k], rule, k) != [] and not sums[k + 1] < sums[k]:
            return ("rise", k)
    return None


def fault_of_ring(goods, stand, rule, t, long):
    stands = stands_of(goods, stand, rule, t + long)
    for k in range(t + long + 1):
        if at_rest(goods, stands[k], rule):
            return ("rests", k)
    if stands[t] != stands[t + long] or t % rounds(goods, rule) != (t + long) % rounds(goods, rule):
        return ("unlike",)
    return None


def beside(goods, stand):
    """All stands that one move leads to."""
    pairs = itertools.product(stand, goods.web.hands())
    return [{**stand, piece: hand} for piece, hand in pairs if goods.may_go(piece, stand[piece], hand)]


def layers_of(goods, stand, count):
    """The stands that 0, 1, .. count moves, and no fewer, lead to; no empty list among them."""
    layers, known = [[stand]], [stand]
    while len(layers) <= count:
        newest = []
        for there in layers[-1]:
            newest += [after for after in beside(goods, there) if after not in known and after not in newest]
        if not newest:
            break
        layers.append(newest)
        known += newest
    return layers


def hands_of(stand):
    return tuple(stand[piece] for piece in sorted(stand))


def shut_of(goods, stand, limit, count):
    layers = layers_of(goods, stand, count - 1)
    found = [(there, number) for number, layer in enumerate(layers) for there in layer]
    if any(Fraction(*spread(goods, there)) <= Fraction(*limit) for there, number in found):
        return None
    return sorted((hands_of(there), number) for there, number in found)


def shut_fault(goods, stand, limit, count, shut):
    """Of a shut that has no fault of form."""
    if (hands_of(stand), 0) not in shut:
        return ("first",)
    for k, (hands, number) in enumerate(shut):
        there = dict(zip(sorted(stand), hands))
        if Fraction(*spread(goods, there)) <= Fraction(*limit):
            return ("even", k)
        for after in beside(goods, there):
            numbers = [other for those, other in shut if those == hands_of(after)]
            if number < count - 1 and (not numbers or numbers[0] > number + 1):
                return ("open", k)
    return None


def ways_between(web, one, other, gone=()):
    """All ways along ties from the hand one to the hand other, no hand twice, as lists of ties."""
    if one == other:
        return [[]]
    found = []
    for near in web.neighbours(one):
        if near not in gone:
            found += [[(one, near)] + way for way in ways_between(web, near, other, gone + (one,))]
    return found


def gap_of_tie_by(web, weight, rule, tie):
    """As gap_of_tie, but by least the greatest of all ties that have one of the tie's two hands."""
    near = [other for other in web.ties() if set(other) & set(tie)] if rule.startswith("least") else [tie]
    return max(gap_of_tie(web, weight, rule, *other) for other in near)


def apart_by(web, weight, rule, one, other):
    sums = [sum([gap_of_tie_by(web, weight, rule, tie) for tie in way], Fraction(0))
            for way in ways_between(web, one, other)]
    return pair(min(sums)) if sums else None
