"""Goods: pieces of told weights, and the ties of a web along which each may go."""

from evenpieces.errors import NoGoods, NoPiece
from evenpieces.kinds import is_name, is_whole_within, lesser_first, sorted_ties, ties_anew
from evenpieces.webs import Web

MOST_WEIGHT = 1000000000


def checked_ways(web, ways):
    """None for a free piece, else its ties sorted, each with the lesser name first."""
    if ways is None:
        return None
    found = sorted_ties(ways)
    if found is None:
        raise NoGoods("ways must be None or a list of tuples of two unlike names, no tie twice")
    for one, other in found:
        if not web.are_tied(one, other):
            raise NoGoods("ways must be along ties of the web")
    return found


def checked_piece(web, piece):
    """The piece as a tuple (name, weight, ways), its ways as checked_ways tells them."""
    if not isinstance(piece, tuple) or len(piece) != 3:
        raise NoGoods("a piece must be a tuple of a name, a weight and ways")
    if not is_name(piece[0]):
        raise NoGoods("a piece's name must be one to eight small letters")
    if not is_whole_within(piece[1], 1, MOST_WEIGHT):
        raise NoGoods("a weight must be a whole number from 1 to 10 ** 9")
    return (piece[0], piece[1], checked_ways(web, piece[2]))


def checked_pieces(web, pieces):
    """The checked pieces, sorted by name."""
    if not isinstance(pieces, list):
        raise NoGoods("pieces must be a list")
    found = {}
    for piece in pieces:
        checked = checked_piece(web, piece)
        if checked[0] in found:
            raise NoGoods("two pieces have the same name")
        found[checked[0]] = checked
    return [found[name] for name in sorted(found)]


class Goods:
    """Pieces for a web; they never change."""

    def __init__(self, web, pieces):
        if not isinstance(web, Web):
            raise NoGoods("goods must be for a web")
        checked = checked_pieces(web, pieces)
        self.web = web
        self.weight_by_name = dict([(name, weight) for name, weight, ways in checked])
        self.ways_by_name = dict([(name, ways) for name, weight, ways in checked])

    def has_piece(self, thing):
        """Whether this is a piece of the goods; of anything."""
        # What is no text may not even serve as a dict's key.
        return isinstance(thing, str) and thing in self.weight_by_name

    def names(self):
        """The sorted list of the pieces' names."""
        return list(self.weight_by_name)

    def weight(self, piece):
        """The weight of the piece."""
        if not self.has_piece(piece):
            raise NoPiece("the goods have no such piece")
        return self.weight_by_name[piece]

    def ways(self, piece):
        """None for a free piece, else the sorted list of its ties, each with the lesser name first."""
        if not self.has_piece(piece):
            raise NoPiece("the goods have no such piece")
        ties = self.ways_by_name[piece]
        return None if ties is None else ties_anew(ties)

    def may_go(self, piece, one, other):
        """Whether the piece may go from one to other along a tie; hands may be anything."""
        if not self.has_piece(piece):
            raise NoPiece("the goods have no such piece")
        if not self.web.are_tied(one, other):
            return False
        ties = self.ways_by_name[piece]
        return ties is None or lesser_first(one, other) in ties

    def are_free(self):
        """Whether all pieces are free."""
        return all([ties is None for ties in self.ways_by_name.values()])
