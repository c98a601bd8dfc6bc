"""Lines: one group, as often as one likes, in one row."""

from besideseats.groups import GAP, WIDTH
from besideseats.places import places_of
from besideseats.seatings import apart


def most_in(hall, row, group):
    columns = []
    for place in places_of(hall, group):
        if place[0] != row:
            continue
        if columns == [] or apart(group, (row, columns[-1]), group, place):
            columns.append(place[1])
    return tuple(columns)


def stakes(hall, row, group):
    return tuple([column + group[WIDTH] + group[GAP] - 1 for column in most_in(hall, row, group)])
