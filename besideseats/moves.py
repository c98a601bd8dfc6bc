"""Moves: halls read from the other side or from behind, and groups exchanged."""

from besideseats.groups import DEPTH, NAME, WIDTH, WISHES


def mirrored(hall):
    return tuple([row[::-1] for row in hall])


def turned(hall):
    return hall[::-1]


def mirrored_place(hall, group, place):
    if place is None:
        return None
    # What was its last column is its first one then.
    return (place[0], len(hall[0]) - place[1] - group[WIDTH])


def turned_row(hall, group, row):
    # What was its last row is its first one then.
    return len(hall) - row - group[DEPTH]


def turned_place(hall, group, place):
    if place is None:
        return None
    return (turned_row(hall, group, place[0]), place[1])


def mirrored_seating(hall, groups, seating):
    return tuple([mirrored_place(hall, group, place) for group, place in zip(groups, seating)])


def turned_seating(hall, groups, seating):
    return tuple([turned_place(hall, group, place) for group, place in zip(groups, seating)])


def turned_group(hall, group):
    wishes = [(turned_row(hall, group, row), more) for row, more in group[WISHES]]
    # Below nought: too few rows were behind the one that it wished.
    return group[:WISHES] + (tuple(sorted([wish for wish in wishes if wish[0] >= 0])),)


def turned_groups(hall, groups):
    return tuple([turned_group(hall, group) for group in groups])


def alike(one, other):
    return one[NAME + 1:] == other[NAME + 1:]


def exchanged(seating, a, b):
    places = list(seating)
    places[a] = seating[b]
    places[b] = seating[a]
    return tuple(places)
