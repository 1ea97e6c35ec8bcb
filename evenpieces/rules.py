"""Rules: which pieces are handed on to neighbours at a moment."""

from evenpieces.errors import NoMoment, NoRule
from evenpieces.kinds import is_whole_from
from evenpieces.stands import checked_stand, levels_at, loads_at

# Each rule's way of giving, mode and guard; shares has no guard, and turns makes all moves of its row.
RULES = {
    "least one high": ("least", "one", "high"),
    "least one fall": ("least", "one", "fall"),
    "least one calm": ("least", "one", "calm"),
    "least all high": ("least", "all", "high"),
    "least all fall": ("least", "all", "fall"),
    "least all calm": ("least", "all", "calm"),
    "below one high": ("below", "one", "high"),
    "below one fall": ("below", "one", "fall"),
    "below one calm": ("below", "one", "calm"),
    "below all high": ("below", "all", "high"),
    "below all fall": ("below", "all", "fall"),
    "below all calm": ("below", "all", "calm"),
    "shares one": ("shares", "one", None),
    "shares all": ("shares", "all", None),
    "turns high": ("turns", "all", "high"),
    "turns fall": ("turns", "all", "fall"),
    "turns calm": ("turns", "all", "calm"),
}


def is_rule(thing):
    """Whether this is a rule; of anything."""
    # What is no text may not even serve as a dict's key.
    return isinstance(thing, str) and thing in RULES


def checked_words(rule):
    """The rule's way of giving, mode and guard."""
    if not is_rule(rule):
        raise NoRule("there is no such rule")
    return RULES[rule]


def is_shares_or_guarded_by(rule, guards):
    """Whether the rule is shares, or makes no two moves at once that share a hand, under one of these guards."""
    words = checked_words(rule)
    if words[0] == "shares":
        return True
    return words[2] in guards and (words[0] == "turns" or words[1] == "one")


def is_let_by(rule):
    """Whether it is promised of the rule that the sum falls at each moment with a move."""
    return is_shares_or_guarded_by(rule, ("fall", "calm"))


def is_calm(rule):
    """Whether it is promised of the rule that no move makes the spread greater."""
    return is_shares_or_guarded_by(rule, ("calm",))


def rows_by(web, rule):
    """The number of rows that the rule goes over in turn; 1 where it goes over none."""
    if checked_words(rule)[0] != "turns":
        return 1
    return max(1, len(web.turns()))


def heaviest_first(goods, placed):
    """The pieces of each hand, the heaviest first, of like ones the first by name."""
    found = dict([(hand, []) for hand in goods.web.hands()])
    for piece in sorted(placed, key=lambda name: (-goods.weight(name), name)):
        found[placed[piece]].append(piece)
    return found


class Sight:
    """What a rule sees of a stand at a moment; moves of the same moment change nothing of it."""

    def __init__(self, goods, placed):
        self.wares = goods
        self.load_by_hand = loads_at(goods, placed)
        self.level_by_hand = levels_at(goods, placed)
        self.pieces_by_hand = heaviest_first(goods, placed)

    def lead(self, one, other):
        """How much one is higher than other, times both strengths; above 0 where it is higher."""
        web = self.wares.web
        return self.load_by_hand[one] * web.strength(other) - self.load_by_hand[other] * web.strength(one)

    def joint_strength(self, one, other):
        """The strengths of both hands together."""
        return self.wares.web.strength(one) + self.wares.web.strength(other)

    def rising_neighbours(self, hand):
        """The neighbours by rising height, of like ones by name."""
        return sorted(self.wares.web.neighbours(hand), key=lambda other: (self.level_by_hand[other], other))


def fits(guard, lead, burden):
    """Whether a piece fits by the guard; burden is its weight times the joint strength."""
    if guard == "high":
        return lead > 0
    if guard == "fall":
        return 2 * lead > burden
    return lead >= burden


def heaviest_move(sight, one, other, guard, given):
    """The list of the one move along the tie, none where no piece but the given ones may go and fits."""
    lead = sight.lead(one, other)
    joint = sight.joint_strength(one, other)
    for piece in sight.pieces_by_hand[one]:
        if piece not in given and fits(guard, lead, sight.wares.weight(piece) * joint):
            if sight.wares.may_go(piece, one, other):
                return [(piece, one, other)]
    return []


def share_moves(sight, one, other, given):
    """The moves along the tie that use up the share, with pieces other than the given ones."""
    parts = sight.joint_strength(one, other) * (sight.wares.web.most_neighbours() + 1)
    left = sight.lead(one, other) // parts
    moves = []
    for piece in sight.pieces_by_hand[one]:
        weight = sight.wares.weight(piece)
        if piece not in given and weight <= left and sight.wares.may_go(piece, one, other):
            moves.append((piece, one, other))
            left = left - weight
    return moves


def moves_by_least(sight, hand, guard):
    """The moves to the lowest neighbour of the hand."""
    around = sight.rising_neighbours(hand)
    if around == []:
        return []
    return heaviest_move(sight, hand, around[0], guard, [])


def moves_by_below(sight, hand, guard):
    """The moves to all lower neighbours of the hand, one piece each."""
    moves = []
    for other in sight.rising_neighbours(hand):
        if sight.lead(hand, other) > 0:
            given = [move[0] for move in moves]
            moves.extend(heaviest_move(sight, hand, other, guard, given))
    return moves


def moves_by_shares(sight, hand):
    """The moves to all lower neighbours of the hand, a share each."""
    moves = []
    for other in sight.wares.web.neighbours(hand):
        if sight.lead(hand, other) > 0:
            given = [move[0] for move in moves]
            moves.extend(share_moves(sight, hand, other, given))
    return moves


def moves_from(sight, hand, words):
    """The moves from the hand by any rule but turns."""
    if words[0] == "least":
        return moves_by_least(sight, hand, words[2])
    if words[0] == "below":
        return moves_by_below(sight, hand, words[2])
    return moves_by_shares(sight, hand)


def moves_by_turns(sight, guard, moment):
    """The moves along the ties of the row whose turn it is."""
    rows = sight.wares.web.turns()
    if rows == []:
        return []
    moves = []
    for one, other in rows[moment % len(rows)]:
        # Nothing fits but from the higher hand, so at most one of these two gives.
        moves.extend(heaviest_move(sight, one, other, guard, []))
        moves.extend(heaviest_move(sight, other, one, guard, []))
    return moves


def moves_seen(sight, rule, moment):
    """The moves that the rule makes at the moment."""
    words = checked_words(rule)
    if words[0] == "turns":
        return moves_by_turns(sight, words[2], moment)
    moves = []
    for hand in sight.wares.web.hands():
        moves.extend(moves_from(sight, hand, words))
        if words[1] == "one" and moves != []:
            return moves[:1]
    return moves


def rests_at(goods, placed, rule):
    """What at_rest tells, of a rule and a stand that are checked."""
    sight = Sight(goods, placed)
    for moment in range(rows_by(goods.web, rule)):
        if moves_seen(sight, rule, moment) != []:
            return False
    return True


def checked_start(goods, stand, rule):
    """The stand as a new dict; a wrong rule is refused ahead of a wrong stand."""
    checked_words(rule)
    return checked_stand(goods, stand)


def checked_moments(thing):
    """The moment, or the number of moments."""
    if not is_whole_from(thing, 0):
        raise NoMoment("a moment must be a whole number from 0 on")
    return thing


def moves_of(goods, stand, rule, moment):
    """The list of the moves that the rule makes at the moment, all reckoned by the stand as it is."""
    placed = checked_start(goods, stand, rule)
    return moves_seen(Sight(goods, placed), rule, checked_moments(moment))


def at_rest(goods, stand, rule):
    """Whether no moment has a move by the rule."""
    return rests_at(goods, checked_start(goods, stand, rule), rule)
