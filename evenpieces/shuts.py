"""Shuts: papers by which fewer moves are shut out, and a looker over them."""

from evenpieces.errors import NoMost
from evenpieces.fewests import Reach, check_limit, is_even, layers_within
from evenpieces.kinds import is_whole_within
from evenpieces.stands import checked_stand

MOST_COUNT = 100


def checked_shut_start(goods, stand, limit, count):
    """The stand as a new dict; what is wrong is refused in the order limit, stand, count."""
    check_limit(limit)
    placed = checked_stand(goods, stand)
    if not is_whole_within(count, 1, MOST_COUNT):
        raise NoMost("count must be a whole number from 1 to 100")
    return placed


def shut_of(goods, stand, limit, count):
    """The sorted list of the stands that fewer than count moves lead to, or None where one of them is within limit."""
    placed = checked_shut_start(goods, stand, limit, count)
    shut = []
    for number, layer in enumerate(layers_within(goods, placed, count - 1)):
        shut.extend([(hands, number) for hands in layer])
    if any([is_even(goods, hands, limit) for hands, number in shut]):
        return None
    return sorted(shut)


def is_entry(goods, count, thing):
    """Whether this is a tuple of a stand, as a tuple of hands, and a number of moves below count."""
    if not isinstance(thing, tuple) or len(thing) != 2:
        return False
    if not isinstance(thing[0], tuple) or len(thing[0]) != len(goods.names()):
        return False
    return all([goods.web.has_hand(hand) for hand in thing[0]]) and is_whole_within(thing[1], 0, count - 1)


def place_of_wrong_form(goods, count, shut):
    """The place of the first thing in the list that is wrong by its form or stands there again, or None.

    It is -1 where there is no list.
    """
    if not isinstance(shut, list):
        return -1
    known = {}
    for k, thing in enumerate(shut):
        if not is_entry(goods, count, thing) or thing[0] in known:
            return k
        known[thing[0]] = True
    return None


def leads_out(reach, hands, number_by_hands):
    """Whether some move leads from the stand out of the shut, or to a number greater by more than one."""
    most = number_by_hands[hands] + 1
    return any([number_by_hands.get(after, most + 1) > most for after in reach.one_move_on(hands)])


def shut_fault(goods, stand, limit, count, shut):
    """The first fault of the shut, as a tuple, or None."""
    placed = checked_shut_start(goods, stand, limit, count)
    wrong = place_of_wrong_form(goods, count, shut)
    if wrong is not None:
        return ("form", wrong)
    number_by_hands = dict(shut)
    if number_by_hands.get(tuple(placed.values())) != 0:
        # Told as a new tuple each time, as a written one would not be.
        return tuple(["first"])
    reach = Reach(goods, placed)
    for k, entry in enumerate(shut):
        if is_even(goods, entry[0], limit):
            return ("even", k)
        if entry[1] < count - 1 and leads_out(reach, entry[0], number_by_hands):
            return ("open", k)
    return None
