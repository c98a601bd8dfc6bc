"""Halls: rows of seats, each seat a sign."""

from besideseats.plain import is_letter

MOST_ROWS = 6
MOST_COLUMNS = 12


def is_sign(text):
    return text in (".", "=", "#") or is_letter(text)


def is_row(thing):
    if not isinstance(thing, str) or not 1 <= len(thing) <= MOST_COLUMNS:
        return False
    return all([is_sign(sign) for sign in thing])


def is_hall(thing):
    if not isinstance(thing, tuple) or not 1 <= len(thing) <= MOST_ROWS:
        return False
    if not all([is_row(row) for row in thing]):
        return False
    return all([len(row) == len(thing[0]) for row in thing])


def sign_at(hall, seat):
    row = seat[0]
    column = seat[1]
    # Below nought is asked for, as Python would count from the end there.
    if 0 <= row < len(hall) and 0 <= column < len(hall[0]):
        return hall[row][column]
    return None
