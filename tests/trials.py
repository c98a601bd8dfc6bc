"""Small halls with their groups, and what is told of them by going through all seatings."""

import itertools

from besideseats.seatings import keeps

HALLS = (
    (".",), ("#",), ("..",), ("....",), (".#..",), ("=..", "#.a"), (".a=.", "..#."), ("..", ".=", ".."),
)

SIXTY = 10 ** 60 - 1

# 12 and 7 seats: 19 places for one seat, 4 for nine of them; 20 times 20 times 5 ways.
JUST_HALL = ("............", ".......#####")
# 28 seats in six stretches: 28, 22 and 2 places; 29 times 23 times 3 ways.
ABOVE_HALL = ("............", "........####", "..##########", "..##########", "..##########", "..##########")


def group(name="bo", width=1, depth=1, gap=0, worth=0, wishes=(), kind="", wide=0):
    return (name, width, depth, kind, wide, gap, worth, wishes)


JUST_GROUPS = (
    group("ann", 1, 1, 0, 3, ((1, 2),)), group("bo", 1, 1, 1, 4), group("cy", 9, 1, 0, 9),
)
ABOVE_GROUPS = (group("ann", 1, 1, 0, 3), group("bo", 2, 1, 0, 4), group("cy", 11, 1, 0, 9))

GUESTS = (
    group("a", 1, 1, 0, 0), group("b", 2, 1, 1, 3), group("c", 1, 2, 0, 2, ((0, 2), (1, 5))),
    group("d", 1, 1, 2, 4, ((1, 1),), "a"), group("e", 2, 1, 0, 1, ((0, 4),), "", 1), group("f", 1, 1, 0, 2),
    group("g", 3, 1, 0, 7),
)

BETTER_ALONE = (("..", ".#"), (group("a", 1, 2, 0, 1), group("b", 1, 1, 0, 1, ((1, 9),))))


def small_cases():
    cases = [BETTER_ALONE] + [(hall, ()) for hall in HALLS]
    for many in (1, 2, 3):
        for k, groups in enumerate(itertools.permutations(GUESTS, many)):
            cases.append((HALLS[k % len(HALLS)], groups))
    for groups in itertools.combinations(GUESTS, 2):
        cases.extend((hall, groups) for hall in HALLS)
    return cases


def order_of(seating):
    return [(place is None, place or ()) for place in seating]


def seatings_by_trial(hall, groups, fast, some):
    # Every spot of the hall for everyone, be there a place or not.
    spots = list(itertools.product(range(len(hall)), range(len(hall[0]))))
    choices = [[place] if place is not None else spots + [None] * some for place in fast or (None,) * len(groups)]
    found = [seating for seating in itertools.product(*choices) if keeps(hall, groups, seating)]
    return sorted(found, key=order_of)


def fasts_of(hall, groups):
    """None, nobody, and some seatings of those groups that keep, all seated and a few."""
    nobody = (None,) * len(groups)
    kept = seatings_by_trial(hall, groups, None, True)
    return [None, nobody] + kept[:-1:max(1, len(kept) // 3)]


class Odd:
    def __eq__(self, other):
        raise RuntimeError("not to be compared")

    def __len__(self):
        raise RuntimeError("not to be measured")


def deep(times):
    thing = ()
    for time in range(times):
        thing = ("each", 0, (thing,))
    return thing


# What is neither a paper nor a tree, wherever it stands.
STRANGE = (
    None, 0, 1, -1, SIXTY, True, False, "", "stuck", "each", "end", "stuck 0", 1.5, b"stuck", [], {}, {0: "stuck"},
    {"stuck", 0}, range(2), object(), Odd(), tuple, len, (), ((),), (None,), ("stuck",), ("each",), (0,), (0, "stuck"),
    ("stuck", None), ("stuck", 0, 0), ("stuck", 0, ()), ("stuck", (0,)), ("each", 0), ("each", 0, None), ("each", 0, 0),
    ("each", 0, "a"), ("each", 0, []), ("each", 0, {}), ("each", 0, (), ()), ("each", (), 0), ("stuck", "0"), ("stuck", 0.0),
    ("Stuck", 0), ("stuck ", 0), ("each ", 0, ()), ("EACH", 0, ()), ("", 0), (b"stuck", 0), (None, 0), (True, 0),
    (Odd(), 0), (Odd(), 0, ()), ("stuck", Odd()), ("each", Odd(), ()), ("each", 0, Odd()), ["stuck", 0], ["each", 0, ()],
    ("end", 0), ("end", ()), ("end", 0, ()), ["end"], ("End",), ("end ",), ("",), ((("end",),),), (Odd(),), ("end", "end"),
    (("stuck", 0),), (("stuck", 0), ("stuck", 1)), deep(100000),
)
