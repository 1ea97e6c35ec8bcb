"""Yards: pieces come and are done while a rule hands them on."""

from evenpieces.errors import NoGoods, NoHand, NoPiece
from evenpieces.goods import Goods, checked_piece
from evenpieces.kinds import fraction_of
from evenpieces.rules import Sight, checked_moments, checked_words, moves_seen, rests_at
from evenpieces.stands import heights_at, loads_at, multiple_of_strengths, rise_at, spread_at

MOST_PIECES = 30


class Yard:
    """A web with a rule at work; its deeds are come, go and tick."""

    def __init__(self, web, rule):
        checked_words(rule)
        self.web = web
        self.rule = rule
        self.moment = 0
        self.piece_by_name = {}
        self.hand_by_name = {}
        self.deeds = []
        # The bound times the multiple of strengths, a whole number like the rise of a stand.
        self.bound_in_parts = 0

    def come(self, name, weight, hand, ways=None):
        """A piece more, at the hand."""
        piece = checked_piece(self.web, (name, weight, ways))
        if name in self.piece_by_name:
            raise NoGoods("a piece of this name is there")
        if not self.web.has_hand(hand):
            raise NoHand("the web has no such hand")
        if len(self.piece_by_name) >= MOST_PIECES:
            raise NoGoods("thirty pieces are there")
        self.piece_by_name[name] = piece
        self.hand_by_name[name] = hand
        self.loosen(weight, hand)
        self.deeds.append(("come", name, weight, hand))

    def go(self, name):
        """The piece is done, and gone."""
        # What is no text may not even serve as a dict's key.
        if not isinstance(name, str) or name not in self.piece_by_name:
            raise NoPiece("no piece of this name is there")
        piece = self.piece_by_name.pop(name)
        hand = self.hand_by_name.pop(name)
        self.loosen(piece[1], hand)
        self.deeds.append(("go", name, hand))

    def loosen(self, weight, hand):
        """Adds to the bound by how much the height of the hand has changed."""
        parts = multiple_of_strengths(self.web) // self.web.strength(hand)
        self.bound_in_parts = self.bound_in_parts + weight * parts

    def tick(self, moments):
        """So many moments go by; the list of all moves made."""
        end = self.moment + checked_moments(moments)
        goods = self.goods()
        moves = []
        while self.moment < end:
            moves.extend(self.moves_made(goods))
            placed = self.stand()
            if rests_at(goods, placed, self.rule):
                self.bound_in_parts = rise_at(goods, placed)
                # Nothing is moved any more, so what is left of the moments goes by at once.
                self.moment = end
        return moves

    def moves_made(self, goods):
        """One moment goes by; the list of its moves."""
        moves = moves_seen(Sight(goods, self.stand()), self.rule, self.moment)
        for piece, one, other in moves:
            self.hand_by_name[piece] = other
            self.deeds.append(("move", self.moment, piece, one, other))
        self.moment = self.moment + 1
        return moves

    def goods(self):
        """The goods that are there; later deeds change nothing of them."""
        return Goods(self.web, list(self.piece_by_name.values()))

    def stand(self):
        """At which hand each piece is."""
        return dict(sorted(self.hand_by_name.items()))

    def loads(self):
        """The sum of the weights of its pieces for each hand."""
        return loads_at(self.goods(), self.stand())

    def heights(self):
        """The load divided by the strength, a fraction, for each hand."""
        return heights_at(self.goods(), self.stand())

    def spread(self):
        """The fraction by which the greatest height is above the least one."""
        return spread_at(self.goods(), self.stand())

    def at_rest(self):
        """Whether no moment has a move by the rule."""
        return rests_at(self.goods(), self.stand(), self.rule)

    def bound(self):
        """The fraction that the spread is never above, by a calm rule."""
        return fraction_of(self.bound_in_parts, multiple_of_strengths(self.web))

    def log(self):
        """The list of all deeds and moves, in order."""
        # A tuple made of a tuple would be the one that is kept.
        return [tuple(list(deed)) for deed in self.deeds]
