"""Bounds: by when a run rests, and how uneven it may be there."""

from evenpieces.errors import NoWeight, NotLetBy
from evenpieces.goods import MOST_WEIGHT, Goods
from evenpieces.kinds import fraction_of, is_less, is_whole_within
from evenpieces.rules import checked_words, is_let_by, rows_by
from evenpieces.stands import checked_stand, loads_at, multiple_of_strengths, sum_at
from evenpieces.webs import Web


def checked_guard(rule):
    """The guard, None for shares, of a rule that is let by."""
    if not is_let_by(rule):
        raise NotLetBy("the rule is not let by")
    return checked_words(rule)[2]


def check_weight(thing):
    """Refuses what is no weight of a piece."""
    if not is_whole_within(thing, 1, MOST_WEIGHT):
        raise NoWeight("a weight must be a whole number from 1 to 10 ** 9")


def least_sum(goods, placed):
    """The least whole number that the sum of no stand of these goods is below."""
    web = goods.web
    whole_load = sum(loads_at(goods, placed).values())
    whole_strength = sum([web.strength(hand) for hand in web.hands()])
    top = multiple_of_strengths(web) * whole_load * whole_load
    return (top + whole_strength - 1) // whole_strength


def rest_by(goods, stand, rule):
    """The number of moments by which the run rests."""
    checked_guard(rule)
    placed = checked_stand(goods, stand)
    # The sum falls by 1 at least wherever something is moved, and that is so once in all rows till it rests.
    return (sum_at(goods, placed) - least_sum(goods, placed)) * rows_by(goods.web, rule)


def gap_along(web, weight, guard, tie):
    """The greatest fraction by which the hands of this tie differ at rest, by this tie alone."""
    s = web.strength(tie[0])
    r = web.strength(tie[1])
    burden = weight * (s + r)
    if guard == "fall":
        return fraction_of(burden, 2 * s * r)
    if guard == "calm":
        return fraction_of(burden - 1, s * r)
    return fraction_of(burden * (web.most_neighbours() + 1) - 1, s * r)


def gap_of(web, weight, rule):
    """The greatest fraction by which tied hands differ at rest, where all pieces are free and weigh at most this."""
    guard = checked_guard(rule)
    check_weight(weight)
    found = fraction_of(0, 1)
    for tie in web.ties():
        gap = gap_along(web, weight, guard, tie)
        if is_less(found, gap):
            found = gap
    return found


def heavy_pieces(guard):
    """The names of the pieces of the full weight that one of two hands keeps beside what the other one has."""
    if guard == "fall":
        return ["p"]
    if guard == "calm":
        return ["p", "q"]
    return ["p", "q", "r", "s"]


def worst_of(weight, rule):
    """Goods and a stand of two hands that are at rest and differ by gap_of just so."""
    guard = checked_guard(rule)
    check_weight(weight)
    heavy = heavy_pieces(guard)
    pieces = [(name, weight, None) for name in heavy]
    stand = dict([(name, "a") for name in heavy])
    if guard != "fall":
        # By fall the heavy piece alone is as much as may be; else one less than all heavy ones is.
        pieces.append(("t", 1, None))
        stand["t"] = "b"
    return (Goods(Web([("a", 1), ("b", 1)], [("a", "b")]), pieces), stand)
