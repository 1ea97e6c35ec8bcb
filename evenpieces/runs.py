"""Runs: the stands to which a rule leads, moment by moment."""

from evenpieces.errors import NoMost
from evenpieces.kinds import is_whole_from
from evenpieces.rules import Sight, checked_moments, checked_start, moves_seen, rests_at, rows_by
from evenpieces.stands import sum_at


def placed_after(goods, placed, rule, moment):
    """The stand, as a new dict, behind the moves of this one moment."""
    after = dict(placed)
    for piece, one, other in moves_seen(Sight(goods, placed), rule, moment):
        after[piece] = other
    return after


def stand_after(goods, stand, rule, moments):
    """The stand behind so many moments, from moment 0 on."""
    placed = checked_start(goods, stand, rule)
    for moment in range(checked_moments(moments)):
        placed = placed_after(goods, placed, rule, moment)
    return placed


def sums_of(goods, stand, rule, moments):
    """The list of the sums of the stands behind 0, 1, .. so many moments."""
    placed = checked_start(goods, stand, rule)
    sums = [sum_at(goods, placed)]
    for moment in range(checked_moments(moments)):
        placed = placed_after(goods, placed, rule, moment)
        sums.append(sum_at(goods, placed))
    return sums


def run_of(goods, stand, rule, most):
    """("rest", t, stand), ("ring", t, long), or ("more",) where neither is so by most moments."""
    placed = checked_start(goods, stand, rule)
    if not is_whole_from(most, 0):
        raise NoMost("most must be a whole number from 0 on")
    rows = rows_by(goods.web, rule)
    first_by_mark = {}
    for moment in range(most + 1):
        if rests_at(goods, placed, rule):
            return ("rest", moment, placed)
        # What follows hangs on the row whose turn it is, too.
        mark = (tuple(placed.values()), moment % rows)
        if mark in first_by_mark:
            return ("ring", first_by_mark[mark], moment - first_by_mark[mark])
        first_by_mark[mark] = moment
        placed = placed_after(goods, placed, rule, moment)
    # Told as a new tuple each time, as a written one would not be.
    return tuple(["more"])
