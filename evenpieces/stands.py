"""Stands: at which hand each piece is, and the loads and heights that come of it."""

from evenpieces.errors import NoHand, NoStand
from evenpieces.kinds import fraction_of, least_multiple


def checked_stand(goods, stand):
    """The stand as a new dict, in the order of the pieces' names."""
    if not isinstance(stand, dict):
        raise NoStand("a stand must be a dict")
    for piece, hand in stand.items():
        if not goods.has_piece(piece):
            raise NoStand("a stand must hold pieces of the goods alone")
        if not goods.web.has_hand(hand):
            raise NoStand("each piece must be at a hand of the web")
    names = goods.names()
    if len(stand) != len(names):
        raise NoStand("a stand must hold each piece of the goods")
    return dict([(piece, stand[piece]) for piece in names])


def loads_at(goods, placed):
    """The load of each hand, of a stand that is checked."""
    found = dict([(hand, 0) for hand in goods.web.hands()])
    for piece, hand in placed.items():
        found[hand] = found[hand] + goods.weight(piece)
    return found


def multiple_of_strengths(web):
    """The least whole number from 1 on that all strengths of the web divide."""
    return least_multiple([web.strength(hand) for hand in web.hands()])


def levels_at(goods, placed):
    """The height of each hand times the multiple of strengths: whole numbers, in the order of the heights."""
    multiple = multiple_of_strengths(goods.web)
    found = {}
    for hand, load in loads_at(goods, placed).items():
        found[hand] = load * (multiple // goods.web.strength(hand))
    return found


def heights_at(goods, placed):
    """The height of each hand, a fraction, of a stand that is checked."""
    found = {}
    for hand, load in loads_at(goods, placed).items():
        found[hand] = fraction_of(load, goods.web.strength(hand))
    return found


def rise_at(goods, placed):
    """The spread times the multiple of strengths, a whole number, of a stand that is checked."""
    levels = levels_at(goods, placed)
    return max(levels.values()) - min(levels.values())


def spread_at(goods, placed):
    """What spread tells, of a stand that is checked."""
    return fraction_of(rise_at(goods, placed), multiple_of_strengths(goods.web))


def sum_at(goods, placed):
    """What sum_of tells, of a stand that is checked."""
    levels = levels_at(goods, placed)
    return sum([load * levels[hand] for hand, load in loads_at(goods, placed).items()])


def loads(goods, stand):
    """The sum of the weights of its pieces for each hand."""
    return loads_at(goods, checked_stand(goods, stand))


def heights(goods, stand):
    """The load divided by the strength, a fraction, for each hand."""
    return heights_at(goods, checked_stand(goods, stand))


def pieces_at(goods, stand, hand):
    """The sorted list of the names of the pieces at the hand."""
    placed = checked_stand(goods, stand)
    if not goods.web.has_hand(hand):
        raise NoHand("the web has no such hand")
    return [piece for piece in placed if placed[piece] == hand]


def sum_of(goods, stand):
    """The sum over all hands of load * load * (M // strength), M the multiple of strengths."""
    return sum_at(goods, checked_stand(goods, stand))


def spread(goods, stand):
    """The fraction by which the greatest height is above the least one."""
    return spread_at(goods, checked_stand(goods, stand))


def steepest(goods, stand):
    """The greatest fraction by which a hand is above a neighbour."""
    levels = levels_at(goods, checked_stand(goods, stand))
    above = [abs(levels[one] - levels[other]) for one, other in goods.web.ties()]
    return fraction_of(max(above, default=0), multiple_of_strengths(goods.web))
