"""What the other modules ask of things handed in, whole numbers, names and ties, and fractions."""

MOST_LETTERS = 8


def is_whole(thing):
    """Whether this is a whole number."""
    # True and False are ints to Python, but no whole numbers here.
    return isinstance(thing, int) and not isinstance(thing, bool)


def is_whole_from(thing, least):
    """Whether this is a whole number from least on."""
    return is_whole(thing) and least <= thing


def is_whole_within(thing, least, most):
    """Whether this is a whole number from least to most."""
    return is_whole(thing) and least <= thing <= most


def is_name(thing):
    """Whether this is a text of one to eight small letters."""
    if not isinstance(thing, str) or not 1 <= len(thing) <= MOST_LETTERS:
        return False
    # islower and isalpha take letters beyond a to z, too.
    return all(["a" <= letter <= "z" for letter in thing])


def lesser_first(one, other):
    """The tie of two names, the lesser one first."""
    return (one, other) if one < other else (other, one)


def is_pair_of_names(thing):
    """Whether this is a tuple of two unlike names."""
    if not isinstance(thing, tuple) or len(thing) != 2:
        return False
    return is_name(thing[0]) and is_name(thing[1]) and thing[0] != thing[1]


def sorted_ties(ties):
    """The ties sorted, each with the lesser name first; None where this is no list of ties, or one stands twice."""
    if not isinstance(ties, list):
        return None
    found = {}
    for pair in ties:
        if not is_pair_of_names(pair):
            return None
        tie = lesser_first(pair[0], pair[1])
        if tie in found:
            return None
        found[tie] = True
    return sorted(found)


def ties_anew(ties):
    """A new list of new tuples, for the asker to keep."""
    return [(one, other) for one, other in ties]


def greatest_divisor(one, other):
    """The greatest whole number that divides both; the other number where one is 0."""
    rest = one
    divisor = other
    while rest != 0:
        left = divisor % rest
        divisor = rest
        rest = left
    return divisor


def least_multiple(numbers):
    """The least whole number from 1 on that all these numbers divide."""
    found = 1
    for number in numbers:
        found = found // greatest_divisor(found, number) * number
    return found


def fraction_of(top, below):
    """The fraction in least numbers; top from 0 on, below from 1 on."""
    divisor = greatest_divisor(top, below)
    return (top // divisor, below // divisor)


def is_fraction(thing):
    """Whether this is a fraction in least numbers; its top may be below 0."""
    if not isinstance(thing, tuple) or len(thing) != 2:
        return False
    if not is_whole(thing[0]) or not is_whole_from(thing[1], 1):
        return False
    return greatest_divisor(abs(thing[0]), thing[1]) == 1


def is_less(one, other):
    """Whether the one fraction is less than the other."""
    return one[0] * other[1] < other[0] * one[1]
