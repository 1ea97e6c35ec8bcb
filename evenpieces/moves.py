"""Moves: tuples (piece, one, other), made one behind the other, and a judge of them."""

from evenpieces.errors import NoMove
from evenpieces.stands import checked_stand


def is_of_three_texts(thing):
    """Whether this is a tuple of three texts."""
    if not isinstance(thing, tuple) or len(thing) != 3:
        return False
    return all([isinstance(word, str) for word in thing])


def fault_of(goods, placed, move):
    """The reason why the move can't be made from where the pieces are, or None."""
    if not is_of_three_texts(move):
        return "form"
    if not goods.has_piece(move[0]):
        return "piece"
    if placed[move[0]] != move[1]:
        return "place"
    if not goods.web.are_tied(move[1], move[2]):
        return "tie"
    if not goods.may_go(move[0], move[1], move[2]):
        return "ways"
    return None


def bad(k, reason):
    """The answer that tells of the move at place k."""
    return ("bad", k, reason)


def judged(goods, stand, moves):
    """("good", stand) with the stand behind the moves, or ("bad", k, reason) for the first that can't be made."""
    placed = checked_stand(goods, stand)
    if not isinstance(moves, list):
        return bad(-1, "form")
    for k, move in enumerate(moves):
        reason = fault_of(goods, placed, move)
        if reason is not None:
            return bad(k, reason)
        placed[move[0]] = move[2]
    return ("good", placed)


def moved(goods, stand, moves):
    """The stand behind the moves."""
    answer = judged(goods, stand, moves)
    if answer[0] == "bad":
        raise NoMove(answer[1], answer[2])
    return answer[1]
