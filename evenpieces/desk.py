"""The desk: a yard that is told rows of words, and answers texts."""

from evenpieces.bounds import rest_by
from evenpieces.errors import NoRow, NoYard
from evenpieces.fewests import fewest_moves
from evenpieces.runs import run_of
from evenpieces.texts import goods_text, is_figures, is_ways_word, moves_text, read_web, ways_in
from evenpieces.yards import Yard

# By the first word of each row but yard the kinds of the words behind it.
ROWS = {
    "come": ("word", "number", "word", "ways"),
    "go": ("word",),
    "tick": ("number",),
    "loads": (),
    "heights": (),
    "spread": (),
    "bound": (),
    "rest": (),
    "run": ("number",),
    "within": (),
    "fewest": ("ratio", "number"),
    "show": (),
}


def is_ratio(word):
    """Whether this text is two numbers with / between."""
    numbers = word.split("/")
    return len(numbers) == 2 and is_figures(numbers[0]) and is_figures(numbers[1])


def is_word_of(kind, word):
    """Whether the word is of the kind."""
    if kind == "number":
        return is_figures(word)
    if kind == "ways":
        return is_ways_word(word)
    if kind == "ratio":
        return is_ratio(word)
    return word != ""


def is_row(words):
    """Whether the words make one of the rows but yard."""
    if words[0] not in ROWS or len(words) != len(ROWS[words[0]]) + 1:
        return False
    return all([is_word_of(kind, word) for kind, word in zip(ROWS[words[0]], words[1:])])


def ratio_text(fraction):
    """The fraction as a text."""
    top = fraction[0]
    below = fraction[1]
    return f"{top}/{below}"


def moves_answer(moves):
    """The moves in one row, or none."""
    return "none" if moves == [] else moves_text(moves).replace("\n", "; ")


def loads_answer(yard):
    """The load of each hand."""
    return "; ".join([f"{hand} {load}" for hand, load in yard.loads().items()])


def heights_answer(yard):
    """The height of each hand."""
    return "; ".join([hand + " " + ratio_text(height) for hand, height in yard.heights().items()])


def run_answer(yard, most):
    """How the run of the yard's goods ends."""
    told = run_of(yard.goods(), yard.stand(), yard.rule, most)
    if told[0] == "rest":
        moments = told[1]
        return f"rest {moments}"
    return " ".join([str(part) for part in told])


def fewest_answer(yard, ratio, most):
    """The fewest moves of the yard's goods."""
    limit = tuple([int(number) for number in ratio.split("/")])
    told = fewest_moves(yard.goods(), yard.stand(), limit, most)
    if told[0] == "moves":
        return moves_answer(told[1])
    return "never" if told[0] == "none" else "more"


def deed_answer(yard, words):
    """Does the deed, and answers."""
    if words[0] == "tick":
        return moves_answer(yard.tick(int(words[1])))
    if words[0] == "come":
        yard.come(words[1], int(words[2]), words[3], ways_in(words[4]))
    else:
        yard.go(words[1])
    return "ok"


def sight_answer(yard, word):
    """The answer to a row of one word."""
    if word == "loads":
        return loads_answer(yard)
    if word == "heights":
        return heights_answer(yard)
    if word == "spread":
        return ratio_text(yard.spread())
    if word == "bound":
        return ratio_text(yard.bound())
    if word == "rest":
        return "yes" if yard.at_rest() else "no"
    if word == "within":
        return str(rest_by(yard.goods(), yard.stand(), yard.rule))
    return goods_text(yard.goods(), yard.stand()).replace("\n", ", ")


def answer_of(yard, words):
    """The answer to any row but yard."""
    if len(words) == 1:
        return sight_answer(yard, words[0])
    if words[0] == "run":
        return run_answer(yard, int(words[1]))
    if words[0] == "fewest":
        return fewest_answer(yard, words[1], int(words[2]))
    return deed_answer(yard, words)


def yard_told(row):
    """The new yard that a yard row tells of."""
    parts = row.partition(" ")[2].partition("; ")
    if parts[1] == "":
        raise NoRow("a yard row must have a web and a rule")
    return Yard(read_web(parts[0].replace(", ", "\n")), parts[2])


class Desk:
    """A desk, at first without a yard."""

    def __init__(self):
        self.yard = None

    def say(self, row):
        """The answer to the row."""
        if not isinstance(row, str) or "\n" in row:
            raise NoRow("a row must be a text without a line end")
        words = row.split(" ")
        if words[0] == "yard":
            self.yard = yard_told(row)
            return "ok"
        if not is_row(words):
            raise NoRow("there is no such row")
        if self.yard is None:
            raise NoYard("there is no yard yet")
        return answer_of(self.yard, words)
