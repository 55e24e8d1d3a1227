"""Checks of values that several modules share."""

from gonetold.errors import NoPlace, Unfit


def is_number(thing):
    """Tell whether thing is a number; True and False are none."""
    return isinstance(thing, int) and not isinstance(thing, bool)


def is_letter(thing):
    """Tell whether thing is a letter."""
    return is_number(thing) and thing >= 1


def is_place(thing, many):
    """Tell whether thing is a place in a tuple of so many."""
    return is_number(thing) and 0 <= thing < many


def is_set_of_places(thing, many):
    """Tell whether thing is a set of places in a tuple of so many."""
    if not isinstance(thing, tuple):
        return False
    if not all([is_place(place, many) for place in thing]):
        return False
    return all([low < high for low, high in zip(thing, thing[1:])])


def require_letters(word, many):
    """Raise NoPlace(letter) for the first letter of word that is not one of the letters 1 to many."""
    for letter in word:
        if not 1 <= letter <= many:
            raise NoPlace(letter)


def require_number_shown(shown):
    """Raise Unfit() unless shown is a number from 0."""
    if not is_number(shown) or shown < 0:
        raise Unfit()


def tuples_throughout(thing):
    """Return thing with a tuple for each list, at any depth."""
    if isinstance(thing, (list, tuple)):
        return tuple([tuples_throughout(own) for own in thing])
    return thing
