"""Texts: webs, goods with their stand, and rows of moves, written and read back."""

from evenpieces.errors import NoGoods, NoStand, NoText, NoWeb
from evenpieces.goods import Goods
from evenpieces.kinds import is_name
from evenpieces.stands import checked_stand
from evenpieces.webs import Web

MOST_FIGURES = 10


def ways_text(ways):
    """The word for a piece's ways."""
    if ways is None:
        return "free"
    if ways == []:
        return "fixed"
    return ",".join([f"{one}-{other}" for one, other in ways])


def web_rows(web):
    """The rows of the web's text."""
    rows = []
    for hand in web.hands():
        strength = web.strength(hand)
        rows.append(f"hand {hand} {strength}")
    return rows + [f"tie {one} {other}" for one, other in web.ties()]


def web_text(web):
    """The text of the web: its hands, then its ties."""
    return "\n".join(web_rows(web))


def goods_text(goods, stand):
    """The text of the goods and their stand: the rows of the web, then the pieces."""
    placed = checked_stand(goods, stand)
    rows = web_rows(goods.web)
    for piece, hand in placed.items():
        weight = goods.weight(piece)
        ways = ways_text(goods.ways(piece))
        rows.append(f"piece {piece} {weight} {hand} {ways}")
    return "\n".join(rows)


def is_figures(word):
    """Whether this text is a whole number by one to ten figures, with no 0 ahead but in 0 itself."""
    if not 1 <= len(word) <= MOST_FIGURES:
        return False
    # isdigit takes figures beyond 0 to 9, too.
    if not all(["0" <= sign <= "9" for sign in word]):
        return False
    return word[0] != "0" or word == "0"


def is_tie_word(word):
    """Whether this text is two names with - between."""
    names = word.split("-")
    return len(names) == 2 and is_name(names[0]) and is_name(names[1])


def is_ways_word(word):
    """Whether this text has the form of a piece's ways, whatever the web."""
    return word == "free" or word == "fixed" or all([is_tie_word(tie) for tie in word.split(",")])


def ways_in(word):
    """The ways that a word of their form says."""
    if word == "free":
        return None
    if word == "fixed":
        return []
    return [tuple(tie.split("-")) for tie in word.split(",")]


def is_row_of_goods(words):
    """Whether the words have the form of a row of a goods' text."""
    if words[0] == "hand":
        return len(words) == 3 and is_figures(words[2])
    if words[0] == "tie":
        return len(words) == 3
    if words[0] == "piece":
        return len(words) == 5 and is_figures(words[2]) and is_ways_word(words[4])
    return False


def words_of_rows(text):
    """The list of words, parted by single blanks, of each row of the text."""
    if not isinstance(text, str):
        raise NoText("a text must be a text")
    return [row.split(" ") for row in text.split("\n")]


def web_in(rows):
    """The web that the rows say."""
    hands = [(words[1], int(words[2])) for words in rows if words[0] == "hand"]
    ties = [(words[1], words[2]) for words in rows if words[0] == "tie"]
    try:
        return Web(hands, ties)
    except NoWeb as error:
        raise NoText("the rows make no web") from error


def goods_in(rows):
    """The goods that the rows say."""
    web = web_in(rows)
    pieces = [(words[1], int(words[2]), ways_in(words[4])) for words in rows if words[0] == "piece"]
    try:
        return Goods(web, pieces)
    except NoGoods as error:
        raise NoText("the rows make no goods") from error


def text_again(goods, stand):
    """The text of goods and what may be no stand of them."""
    try:
        return goods_text(goods, stand)
    except NoStand as error:
        raise NoText("a piece must be at a hand of the web") from error


def read_goods(text):
    """The tuple (goods, stand) whose text this is."""
    rows = words_of_rows(text)
    if not all([is_row_of_goods(words) for words in rows]):
        raise NoText("a row must be a hand, a tie or a piece")
    goods = goods_in(rows)
    stand = dict([(words[1], words[3]) for words in rows if words[0] == "piece"])
    # Rows that stand in another order, or ties turned about, would read as the same goods.
    if text_again(goods, stand) != text:
        raise NoText("this is not the text of the goods that it says")
    return (goods, stand)


def read_web(text):
    """The web whose text this is."""
    goods = read_goods(text)[0]
    if goods.names() != []:
        raise NoText("a web has no pieces")
    return goods.web


def moves_text(moves):
    """The text of the moves, a row each."""
    return "\n".join([" ".join(move) for move in moves])


def read_moves(text):
    """The list of moves whose text this is."""
    rows = words_of_rows(text)
    if text == "":
        return []
    for words in rows:
        if len(words) != 3 or not all([is_name(word) for word in words]):
            raise NoText("a move must be three names")
    return [tuple(words) for words in rows]
