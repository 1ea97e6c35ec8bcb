"""Fewest moves: the stands to which moves lead, nearest first."""

from evenpieces.errors import NoFraction, NoMost
from evenpieces.kinds import fraction_of, is_fraction, is_less, is_whole_from
from evenpieces.stands import checked_stand, multiple_of_strengths, rise_at, spread_at

MOST_STANDS = 3000


def check_limit(thing):
    """Refuses what is no fraction for a spread to be no more than."""
    if not is_fraction(thing):
        raise NoFraction("a limit must be a tuple of two whole numbers, in least numbers")


def exits_of(goods):
    """For each piece, as names() tells them, the hands to which it may go, by the hand where it stands."""
    web = goods.web
    found = []
    for piece in goods.names():
        exits = {}
        for one in web.hands():
            exits[one] = [other for other in web.neighbours(one) if goods.may_go(piece, one, other)]
        found.append(exits)
    return found


def placed_by(goods, hands):
    """The stand, as a dict, of the tuple of the pieces' hands."""
    return dict(zip(goods.names(), hands))


def is_even(goods, hands, limit):
    """Whether the spread of the stand, a tuple of hands, is no more than limit."""
    return not is_less(limit, spread_at(goods, placed_by(goods, hands)))


def move_between(goods, hands, after):
    """The one move that leads from the one tuple of hands to the other."""
    for piece, one, other in zip(goods.names(), hands, after):
        if one != other:
            return (piece, one, other)
    return None


class Reach:
    """The stands to which moves lead; each is kept as the tuple of the pieces' hands, as names() tells the pieces."""

    def __init__(self, goods, placed):
        first = tuple(placed.values())
        self.exits_by_place = exits_of(goods)
        # By each stand that is known the one ahead of it on a row of fewest moves.
        self.ahead_by_hands = {first: None}
        self.newest = [first]

    def one_move_on(self, hands):
        """All stands that are one move away."""
        found = []
        for place, one in enumerate(hands):
            for other in self.exits_by_place[place][one]:
                found.append(hands[:place] + (other,) + hands[place + 1:])
        return found

    def widen(self, most):
        """Goes one move further; True, or False where it was left off, as more than most stands can be come to."""
        found = []
        for hands in self.newest:
            for after in self.one_move_on(hands):
                if after not in self.ahead_by_hands:
                    if len(self.ahead_by_hands) >= most:
                        return False
                    self.ahead_by_hands[after] = hands
                    found.append(after)
        self.newest = found
        return True

    def row_to(self, hands):
        """The stands from the first one to this one, each one move behind the last."""
        row = []
        there = hands
        while there is not None:
            row.append(there)
            there = self.ahead_by_hands[there]
        row.reverse()
        return row


def moves_along(goods, row):
    """The moves that lead along the row of stands."""
    return [move_between(goods, row[k], row[k + 1]) for k in range(len(row) - 1)]


def fewest_moves(goods, stand, limit, most):
    """("moves", moves) to a spread of no more than limit, ("none",), or ("more",) where most stands are too few."""
    check_limit(limit)
    placed = checked_stand(goods, stand)
    if not is_whole_from(most, 1):
        raise NoMost("most must be a whole number from 1 on")
    reach = Reach(goods, placed)
    while reach.newest != []:
        for hands in reach.newest:
            if is_even(goods, hands, limit):
                return ("moves", moves_along(goods, reach.row_to(hands)))
        if not reach.widen(most):
            # Told as a new tuple each time, as a written one would not be.
            return tuple(["more"])
    return tuple(["none"])


def layers_within(goods, placed, count):
    """The lists of the stands, as tuples of hands, that 0, 1, .. count moves and no fewer lead to."""
    reach = Reach(goods, placed)
    layers = [reach.newest]
    while len(layers) <= count and reach.newest != []:
        if not reach.widen(MOST_STANDS):
            raise NoMost("more than 3,000 stands can be come to")
        layers.append(reach.newest)
    return layers


def reached_by(goods, stand, count):
    """How many stands at most count moves lead to, and the least spread among them."""
    placed = checked_stand(goods, stand)
    if not is_whole_from(count, 0):
        raise NoMost("count must be a whole number from 0 on")
    rises = []
    for layer in layers_within(goods, placed, count):
        rises.extend([rise_at(goods, placed_by(goods, hands)) for hands in layer])
    return (len(rises), fraction_of(min(rises), multiple_of_strengths(goods.web)))
