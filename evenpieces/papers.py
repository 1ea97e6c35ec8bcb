"""Papers: what is written of a run, and a looker over it."""

from evenpieces.kinds import is_whole, is_whole_from
from evenpieces.rules import checked_start, rests_at, rows_by
from evenpieces.runs import placed_after, run_of, sums_of
from evenpieces.stands import sum_at

MOST_MOMENTS = 3000


def paper_of(goods, stand, rule, most):
    """("rest", sums), ("ring", t, long), or None where run_of tells more."""
    told = run_of(goods, stand, rule, most)
    if told[0] == "rest":
        return ("rest", sums_of(goods, stand, rule, told[1]))
    if told[0] == "ring":
        return told
    return None


def begins_with(paper, word, length):
    """Whether the paper is a tuple of this length with the word ahead."""
    if not isinstance(paper, tuple) or len(paper) != length:
        return False
    # Some other thing might only say that it is like the word.
    return isinstance(paper[0], str) and paper[0] == word


def is_of_a_rest(paper):
    """Whether the paper has the form of a rest."""
    if not begins_with(paper, "rest", 2) or not isinstance(paper[1], list):
        return False
    return 1 <= len(paper[1]) <= MOST_MOMENTS + 1 and all([is_whole(number) for number in paper[1]])


def is_of_a_ring(paper):
    """Whether the paper has the form of a ring."""
    if not begins_with(paper, "ring", 3):
        return False
    if not is_whole_from(paper[1], 0) or not is_whole_from(paper[2], 1):
        return False
    return paper[1] + paper[2] <= MOST_MOMENTS


def fault_of_rest(goods, placed, rule, sums):
    """The first fault of a paper of a rest, or None."""
    last = len(sums) - 1
    there = placed
    for k in range(last):
        if sums[k] != sum_at(goods, there):
            return ("sum", k)
        if rests_at(goods, there, rule):
            return ("rests", k)
        after = placed_after(goods, there, rule, k)
        if after != there and sums[k + 1] >= sums[k]:
            return ("rise", k)
        there = after
    if sums[last] != sum_at(goods, there):
        return ("sum", last)
    return None if rests_at(goods, there, rule) else ("goes", last)


def fault_of_ring(goods, placed, rule, t, long):
    """The first fault of a paper of a ring, or None."""
    stands = [placed]
    for k in range(t + long + 1):
        if rests_at(goods, stands[k], rule):
            return ("rests", k)
        stands.append(placed_after(goods, stands[k], rule, k))
    if stands[t] != stands[t + long] or long % rows_by(goods.web, rule) != 0:
        # Told as a new tuple each time, as a written one would not be.
        return tuple(["unlike"])
    return None


def paper_fault(goods, stand, rule, paper):
    """The first fault of the paper, as a tuple, or None."""
    placed = checked_start(goods, stand, rule)
    if is_of_a_rest(paper):
        return fault_of_rest(goods, placed, rule, paper[1])
    if is_of_a_ring(paper):
        return fault_of_ring(goods, placed, rule, paper[1], paper[2])
    return tuple(["form"])
