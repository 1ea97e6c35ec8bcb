"""Aparts: how much hands differ at rest that are no neighbours."""

from evenpieces.bounds import check_weight, checked_guard, gap_along
from evenpieces.errors import NoHand
from evenpieces.kinds import fraction_of, is_less
from evenpieces.rules import checked_words


def sum_of_two(one, other):
    """The sum of two fractions."""
    return fraction_of(one[0] * other[1] + other[0] * one[1], one[1] * other[1])


def gaps_alone(web, weight, rule):
    """The gap of each tie by this tie alone."""
    guard = checked_guard(rule)
    return dict([(tie, gap_along(web, weight, guard, tie)) for tie in web.ties()])


def greatest_beside(tie, gaps):
    """The greatest gap of all ties that have one of the tie's two hands."""
    found = gaps[tie]
    for near, gap in gaps.items():
        if (tie[0] in near or tie[1] in near) and is_less(found, gap):
            found = gap
    return found


def gaps_by_tie(web, weight, rule):
    """The gap of each tie by the rule."""
    gaps = gaps_alone(web, weight, rule)
    if checked_words(rule)[0] != "least":
        return gaps
    # By least a hand looks at its lowest neighbour alone, so another tie of it may keep it from giving.
    return dict([(tie, greatest_beside(tie, gaps)) for tie in gaps])


def shorten(found, one, other, gap):
    """Takes the way over one to other, where it is shorter than what is found."""
    if one in found:
        whole = sum_of_two(found[one], gap)
        if other not in found or is_less(whole, found[other]):
            found[other] = whole


def apart_by(web, weight, rule, one, other):
    """The fraction by which the heights of two hands differ at most at rest; None where no way leads there."""
    checked_guard(rule)
    check_weight(weight)
    if not web.has_hand(one) or not web.has_hand(other):
        raise NoHand("the web has no such hand")
    gaps = gaps_by_tie(web, weight, rule)
    found = {}
    found[one] = fraction_of(0, 1)
    # A shortest way has fewer ties than there are hands, so going over all ties so often is enough.
    for step in web.hands():
        for tie, gap in gaps.items():
            shorten(found, tie[0], tie[1], gap)
            shorten(found, tie[1], tie[0], gap)
    return found.get(other)
