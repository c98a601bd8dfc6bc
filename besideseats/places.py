"""Places: where in a hall a group fits."""

from besideseats.groups import DEPTH, KIND, WIDE, WIDTH
from besideseats.halls import sign_at


def takes(sign, kind):
    # A sign is never the text of no signs, so without a kind no letter is met.
    return sign in (".", "=") or sign == kind


def seats_of(group, place):
    seats = []
    for row in range(place[0], place[0] + group[DEPTH]):
        seats.extend([(row, column) for column in range(place[1], place[1] + group[WIDTH])])
    return tuple(seats)


def fits(hall, group, place):
    # Beyond the hall the sign is None, which takes nobody.
    signs = [sign_at(hall, seat) for seat in seats_of(group, place)]
    if not all([takes(sign, group[KIND]) for sign in signs]):
        return False
    return signs.count("=") >= group[WIDE]


def places_of(hall, group):
    places = []
    for row in range(len(hall)):
        places.extend([(row, column) for column in range(len(hall[row])) if fits(hall, group, (row, column))])
    return tuple(places)
