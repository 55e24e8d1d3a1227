"""What is kept in a queue of which some letters are shown: keepers, and bars against them."""

from gonetold.checks import require_number_shown
from gonetold.doings import doing_ways, image_of, image_ways, letter_doings, one_of, then
from gonetold.errors import CanNot, TooMuch
from gonetold.keepers import keeper_of
from gonetold.machines import least, letters_in
from gonetold.ways import Ways
from gonetold.words import is_row_of_words

MOST_MADE_ROOMS = 4000
# With more doings there are more than MOST_MADE_ROOMS pairs of them.
MOST_MADE_DOINGS = 63


class Bars(Ways):
    """The pairs (0 . v, Q . x v) of a machine of which the first is not in the second.

    firsts has for each Q . x the first word x; begins the pairs with v ().
    """

    def __init__(self, machine):
        self.firsts = image_ways(machine)
        self.begins = [(0, image) for image in self.firsts if 0 not in image]
        Ways.__init__(self, pairs_ahead(letter_doings(machine), list(self.firsts), self.begins))


def pairs_ahead(letters, images, begins):
    """Return for each pair come to from begins the dict of the pairs to which letters, these doings, lead it."""
    led = {image: [image_of(then(image, doing)) for doing in letters] for image in images}
    ahead = {}
    waiting = list(begins)
    while waiting:
        state, image = waiting.pop()
        if (state, image) not in ahead:
            targets = [(doing[state], own) for doing, own in zip(letters, led[image])]
            barred_ones = {at: pair for at, pair in enumerate(targets, start=1) if pair[0] not in pair[1]}
            ahead[(state, image)] = barred_ones
            waiting.extend(list(barred_ones.values()))
    return ahead


def is_kept_shown(machine, shown):
    """Tell whether machine is kept in a queue with so many letters shown."""
    require_number_shown(shown)
    bars = Bars(machine)
    return not any([bars.has_way(pair, shown) for pair in bars.begins])


def bar(machine, shown):
    """Return a bar (x, v) against machine with so many letters shown."""
    require_number_shown(shown)
    bars = Bars(machine)
    for pair in bars.begins:
        if bars.has_way(pair, shown):
            return bars.firsts[pair[1]], bars.way_of(pair, shown)
    raise CanNot()


def is_bar(machine, shown, thing):
    """Tell whether thing is a bar against machine with so many letters shown."""
    require_number_shown(shown)
    if not is_row_of_words(thing, 2, letters_in(machine)):
        return False
    gone, ahead = thing
    return len(ahead) == shown and is_barred(machine, gone, ahead)


def is_barred(machine, gone, word):
    """Tell whether 0 . word is not in Q . gone word, Q the states of the least machine."""
    steps = least(machine)[0]
    states = list(range(len(steps)))
    for letter in gone:
        states = sorted({steps[state][letter - 1] for state in states})
    place = 0
    for letter in word:
        states = sorted({steps[state][letter - 1] for state in states})
        place = steps[place][letter - 1]
    return place not in states


def made_shown(machine, shown):
    """Return a keeper of a queue with so many letters shown that is right for machine."""
    if not is_kept_shown(machine, shown):
        raise CanNot()
    require_few_rooms(machine, shown)
    letters = letter_doings(machine)
    ends = least(machine)[1]
    telling = tuple([0 if shown > 0 else at for at in range(len(letters))])

    def ahead(place):
        return ins_ahead(letters, shown, place) + outs_ahead(letters, shown, place)

    begin = (one_of(machine), one_of(machine), ())
    return keeper_of("queue", shown, telling, begin, ahead, lambda place: state_left(letters, shown, place) in ends)


def require_few_rooms(machine, shown):
    """Raise TooMuch() if two doings and a word of at most so many letters can be taken in too many ways."""
    many = len(doing_ways(machine, MOST_MADE_DOINGS))
    # The words are counted only as far as they may be: of what is shown there may be much.
    words, longest = 1, 1
    for _ in range(shown):
        longest *= letters_in(machine)
        words += longest
        if many * many * words > MOST_MADE_ROOMS:
            raise TooMuch()


def ins_ahead(letters, shown, place):
    """Return the triples of what may come in, of the room with the doings of what went and came, and what is seen."""
    gone, came, sight = place
    triples = []
    for letter, doing in enumerate(letters, start=1):
        longer = (sight + (letter,))[:shown]
        triples.append((("in", letter), longer, (gone, then(came, doing), longer)))
    return triples


def outs_ahead(letters, shown, place):
    """Return the triples of what may go out, of the same room."""
    gone, came, sight = place
    if shown == 0:
        return [(("out", token), (), (then(gone, doing), came, ())) for token, doing in enumerate(letters)]
    if not sight:
        return []
    # Behind as many letters as are shown there may stand one more, or none.
    fresh = list(range(1, len(letters) + 1)) if len(sight) == shown else []
    sights = [sight[1:]] + [sight[1:] + (letter,) for letter in fresh]
    went = then(gone, letters[sight[0] - 1])
    return [(("out", 0), own, (went, came, own)) for own in sights]


def state_left(letters, shown, place):
    """Return the state to which what stands leads 0, in the same room."""
    gone, came, sight = place
    begun = led_by(letters, 0, sight)
    if len(sight) < shown:
        return begun
    # What went leads some state to where what is seen, and so all that stands, does the same as to 0.
    return min([came[state] for state in range(len(gone)) if led_by(letters, gone[state], sight) == begun])


def led_by(letters, state, word):
    """Return the state to which word leads state, letters being the doings of the letters."""
    for letter in word:
        state = letters[letter - 1][state]
    return state
