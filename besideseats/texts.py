"""Halls and groups as texts: written, and read from just what is so written."""

from besideseats.errors import NoText
from besideseats.groups import DEPTH, GAP, KIND, NAME, WIDE, WIDTH, WISHES, WORTH, is_group
from besideseats.halls import is_hall

FIGURES = "0123456789"
MOST_FIGURES = 60


def show_hall(hall):
    return "\n".join(hall)


def show_group(group):
    words = [group[NAME], str(group[WIDTH]) + "x" + str(group[DEPTH])]
    if group[KIND] != "":
        words.extend(["kind", group[KIND]])
    for word, part in (("wide", WIDE), ("gap", GAP), ("worth", WORTH)):
        if group[part] > 0:
            words.extend([word, str(group[part])])
    for wish in group[WISHES]:
        words.extend(["row", str(wish[0]), str(wish[1])])
    return " ".join(words)


def read_hall(text):
    if not isinstance(text, str):
        raise NoText("a hall is read from a text alone")
    hall = tuple(text.split("\n"))
    if not is_hall(hall):
        raise NoText("this text is not how a hall is written")
    return hall


def number_in(word):
    # The length is asked first, as int refuses some thousands of figures.
    if not 1 <= len(word) <= MOST_FIGURES or not all([sign in FIGURES for sign in word]):
        return None
    return int(word)


def wishes_in(words):
    return tuple([(number_in(words[k + 1]), number_in(words[k + 2])) for k in range(0, len(words) - 2, 3)])


def group_in(words):
    # Read loosely, to None where there is no number: read_group asks whether
    # it is a group and holds it against the text, and so finds all that is amiss.
    size = words[1].partition("x")
    told = {"kind": "", "wide": "0", "gap": "0", "worth": "0"}
    at = 2
    for word in ("kind", "wide", "gap", "worth"):
        if at + 1 < len(words) and words[at] == word:
            told[word] = words[at + 1]
            at += 2
    return (
        words[0], number_in(size[0]), number_in(size[2]), told["kind"], number_in(told["wide"]),
        number_in(told["gap"]), number_in(told["worth"]), wishes_in(words[at:]),
    )


def read_group(text):
    if not isinstance(text, str):
        raise NoText("a group is read from a text alone")
    words = text.split(" ")
    if len(words) < 2:
        raise NoText("a group is written in two words at least")
    group = group_in(words)
    if not is_group(group) or show_group(group) != text:
        raise NoText("this text is not how a group is written")
    return group
