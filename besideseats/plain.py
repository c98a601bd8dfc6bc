"""Whole numbers and letters, as all other modules ask for them."""


def is_whole(thing):
    # Python counts True and False as ints; here they are no numbers.
    return isinstance(thing, int) and not isinstance(thing, bool)


def is_whole_within(thing, least, most):
    return is_whole(thing) and least <= thing <= most


def is_letter(text):
    # The length is asked too, as "ab" lies between "a" and "z" as well.
    return len(text) == 1 and "a" <= text <= "z"
