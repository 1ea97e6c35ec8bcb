"""Webs: hands of told strengths, and the ties between them."""

from evenpieces.errors import NoHand, NoWeb
from evenpieces.kinds import is_name, is_whole_within, lesser_first, sorted_ties, ties_anew

MOST_HANDS = 8
MOST_STRENGTH = 1000


def is_hand_with_strength(thing):
    """Whether this is a tuple (name, strength)."""
    if not isinstance(thing, tuple) or len(thing) != 2:
        return False
    return is_name(thing[0]) and is_whole_within(thing[1], 1, MOST_STRENGTH)


def checked_strengths(hands):
    """The strengths by the names of the hands, in the names' order."""
    if not isinstance(hands, list) or not 1 <= len(hands) <= MOST_HANDS:
        raise NoWeb("hands must be a list of one to eight tuples")
    found = {}
    for hand in hands:
        if not is_hand_with_strength(hand):
            raise NoWeb("a hand must be a tuple of a name and a strength from 1 to 1,000")
        if hand[0] in found:
            raise NoWeb("two hands have the same name")
        found[hand[0]] = hand[1]
    return dict(sorted(found.items()))


def checked_ties(ties, strengths):
    """The ties sorted, each with the lesser name first."""
    found = sorted_ties(ties)
    if found is None:
        raise NoWeb("ties must be a list of tuples of two unlike names, no tie twice")
    for one, other in found:
        if one not in strengths or other not in strengths:
            raise NoWeb("a tie must be of two hands of the web")
    return found


def neighbours_of_all(names, ties):
    """The sorted lists of neighbours by the names of the hands."""
    found = {}
    for hand in names:
        found[hand] = [other for other in names if lesser_first(hand, other) in ties]
    return found


def first_row_without(rows, tie):
    """The place of the first row in which neither hand of the tie stands, or the place behind the last row."""
    for place, row in enumerate(rows):
        if not any([tie[0] in there or tie[1] in there for there in row]):
            return place
    return len(rows)


class Web:
    """Hands and ties; it never changes."""

    def __init__(self, hands, ties):
        strengths = checked_strengths(hands)
        checked = checked_ties(ties, strengths)
        self.strength_by_hand = strengths
        self.sorted_pairs = checked
        self.neighbours_by_hand = neighbours_of_all(list(strengths), checked)

    def has_hand(self, thing):
        """Whether this is a hand of the web; of anything."""
        # What is no text may not even serve as a dict's key.
        return isinstance(thing, str) and thing in self.strength_by_hand

    def hands(self):
        """The sorted list of the hands' names."""
        return list(self.strength_by_hand)

    def strength(self, hand):
        """The strength of the hand."""
        if not self.has_hand(hand):
            raise NoHand("the web has no such hand")
        return self.strength_by_hand[hand]

    def neighbours(self, hand):
        """The sorted list of the hands tied to the hand."""
        if not self.has_hand(hand):
            raise NoHand("the web has no such hand")
        return list(self.neighbours_by_hand[hand])

    def are_tied(self, one, other):
        """Whether these are two hands with a tie between them; of anything."""
        return self.has_hand(one) and self.has_hand(other) and other in self.neighbours_by_hand[one]

    def ties(self):
        """The sorted list of the ties, each with the lesser name first."""
        return ties_anew(self.sorted_pairs)

    def most_neighbours(self):
        """The greatest number of neighbours that a hand has."""
        return max([len(row) for row in self.neighbours_by_hand.values()])

    def turns(self):
        """The ties parted into rows, in each of which no hand stands twice."""
        rows = []
        for tie in self.ties():
            place = first_row_without(rows, tie)
            if place == len(rows):
                rows.append([])
            rows[place].append(tie)
        return rows
