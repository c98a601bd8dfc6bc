"""Groups: who comes, which seats they ask for and what they are worth."""

from besideseats.plain import is_letter, is_whole_within

# Where each part of a group stands in its tuple.
NAME = 0
WIDTH = 1
DEPTH = 2
KIND = 3
WIDE = 4
GAP = 5
WORTH = 6
WISHES = 7
PARTS = 8

MOST_LETTERS = 8
MOST_WIDTH = 12
MOST_DEPTH = 3
MOST_GAP = 6
LAST_ROW = 5


def is_name(thing):
    if not isinstance(thing, str) or not 1 <= len(thing) <= MOST_LETTERS:
        return False
    return all([is_letter(sign) for sign in thing])


def is_kind(thing):
    return isinstance(thing, str) and (thing == "" or is_letter(thing))


def is_amount(thing, least):
    # Below ten to the sixtieth: at most sixty figures.
    return is_whole_within(thing, least, 10 ** 60 - 1)


def is_wish(thing):
    if not isinstance(thing, tuple) or len(thing) != 2:
        return False
    return is_whole_within(thing[0], 0, LAST_ROW) and is_amount(thing[1], 1)


def are_wishes(thing):
    if not isinstance(thing, tuple) or not all([is_wish(wish) for wish in thing]):
        return False
    # Rows 0 to 5 that rise are six at most, so how many they are is not asked.
    return all([thing[k][0] < thing[k + 1][0] for k in range(len(thing) - 1)])


def asks_for_seats(parts):
    # Width and depth come first, as the bound of wide is made of them.
    if not is_whole_within(parts[WIDTH], 1, MOST_WIDTH):
        return False
    if not is_whole_within(parts[DEPTH], 1, MOST_DEPTH):
        return False
    if not is_whole_within(parts[WIDE], 0, parts[WIDTH] * parts[DEPTH]):
        return False
    return is_kind(parts[KIND]) and is_whole_within(parts[GAP], 0, MOST_GAP)


def is_group(thing):
    if not isinstance(thing, tuple) or len(thing) != PARTS:
        return False
    if not is_name(thing[NAME]) or not asks_for_seats(thing):
        return False
    return is_amount(thing[WORTH], 0) and are_wishes(thing[WISHES])


def worth_in(group, row):
    return group[WORTH] + sum([wish[1] for wish in group[WISHES] if wish[0] == row])
