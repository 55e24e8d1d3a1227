"""Doings: what words do to all states of a least machine at once."""

from gonetold.checks import require_letters
from gonetold.errors import CanNot
from gonetold.machines import first_words, least, letters_in

MOST_DOINGS = 500


def doing_of(machine, word):
    """Return the doing of word by machine."""
    require_letters(word, letters_in(machine))
    steps = least(machine)[0]
    doing = tuple(range(len(steps)))
    for letter in word:
        doing = tuple([steps[state][letter - 1] for state in doing])
    return doing


def one_of(machine):
    """Return the doing of the word without letters."""
    return doing_of(machine, ())


def then(one, other):
    """Return the doing of a word with the doing one and a word with other behind it."""
    return tuple([other[state] for state in one])


def doings(machine):
    """Return all doings, in the order of the first words that have them."""
    return list(doing_ways(machine))


def word_for(machine, doing):
    """Return the first word that has doing."""
    ways = doing_ways(machine)
    own = tuple(doing)
    if own not in ways:
        raise CanNot()
    return ways[own]


def idempotents(machine):
    """Return, in the order of doings, the idempotent doings of words with a letter or more."""
    found = doings(machine)
    letters = letter_doings(machine)
    # The word without letters comes first and is none of them; but others may do the same.
    one_again = any([then(doing, letter) == found[0] for doing in found for letter in letters])
    return [doing for doing in found if is_idempotent(doing) and (doing != found[0] or one_again)]


def doing_ways(machine, most=MOST_DOINGS):
    """Return a dict with the first word of each doing, in order; TooMuch() if there are more than most."""
    letters = letter_doings(machine)
    return first_words(one_of(machine), lambda doing: [then(doing, letter) for letter in letters], most)


def require_doings(machine, most):
    """Raise TooMuch() if machine has more than so many doings."""
    doing_ways(machine, most)


def letter_doings(machine):
    """Return the doings of the letters 1, 2, .. of machine."""
    return [doing_of(machine, (letter,)) for letter in range(1, letters_in(machine) + 1)]


def image_of(doing):
    """Return the set of the states in doing."""
    return tuple(sorted(set(doing)))


def rank_of(doing):
    """Return how many states are in doing."""
    return len(image_of(doing))


def is_idempotent(doing):
    """Tell whether doing twice is doing once."""
    return then(doing, doing) == tuple(doing)


def images(machine):
    """Return the set of the images of the doings of all words."""
    return tuple(sorted(image_ways(machine)))


def image_ways(machine):
    """Return a dict with, for each image of a doing, the first word that has it, in the order of these words."""
    letters = letter_doings(machine)
    # An image is led on without the doing: there may be far more doings than images.
    return first_words(one_of(machine), lambda image: [image_of(then(image, letter)) for letter in letters])


def lap_of(doing):
    """Return the pair of where the powers of doing, from 1 on, begin to go round, and how many go round."""
    places = {}
    power = tuple(doing)
    while power not in places:
        places[power] = len(places) + 1
        power = then(power, doing)
    return places[power], len(places) + 1 - places[power]


def idempotent_power(doing):
    """Return the idempotent one of the powers of doing from 1 on."""
    power = tuple(doing)
    while not is_idempotent(power):
        power = then(power, doing)
    return power
