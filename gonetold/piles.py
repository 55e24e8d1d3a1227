"""What is kept in a pile: keepers, and bars against them."""

from gonetold.checks import require_number_shown
from gonetold.doings import doing_of, doing_ways, letter_doings, one_of, rank_of, then
from gonetold.errors import CanNot
from gonetold.keepers import keeper_of
from gonetold.kept import letters_told_alike
from gonetold.machines import least, letters_in
from gonetold.tellings import letters_with, telling_for, tokens_in
from gonetold.ways import Ways
from gonetold.words import is_row_of_words, seen

MOST_PILE_ROOMS = 1000


class Sinks(Ways):
    """The doings of a machine that have more than the least rank, and which letters lead them to which.

    rank is the least rank, sink the first word that has it, one the doing of the word without letters.
    """

    def __init__(self, machine):
        words = doing_ways(machine)
        self.one = one_of(machine)
        self.rank = min([rank_of(doing) for doing in words])
        self.sink = [word for doing, word in words.items() if rank_of(doing) == self.rank][0]
        letters = letter_doings(machine)
        high = {doing: True for doing in words if rank_of(doing) > self.rank}
        Ways.__init__(self, {doing: high_ahead(high, letters, doing) for doing in high})

    def stays_high(self, many):
        """Tell whether some word of so many letters has more than the least rank."""
        return self.one in self.ahead and self.has_way(self.one, many)


def high_ahead(high, letters, doing):
    """Return the dict of those places in high to which letters, these doings, lead doing."""
    targets = [then(doing, own) for own in letters]
    return {letter: target for letter, target in enumerate(targets, start=1) if target in high}


def least_rank(machine):
    """Return the least rank of a doing of machine."""
    return Sinks(machine).rank


def least_pile(machine):
    """Return the least number of letters shown with which machine is kept in a pile, or None."""
    sinks = Sinks(machine)
    if sinks.one not in sinks.ahead:
        return 0
    if sinks.one not in sinks.height:
        return None
    return sinks.height[sinks.one] + 1


def is_kept_pile(machine, shown, telling):
    """Tell whether machine is kept in a pile with this telling and so many letters shown."""
    require_number_shown(shown)
    own = telling_for(machine, telling)
    if Sinks(machine).stays_high(shown):
        return False
    return shown > 0 or unlike_letters(machine, own) is None


def unlike_letters(machine, telling):
    """Return a pair of letters, one below other, of one token and with unlike doings, or None."""
    letters = letter_doings(machine)
    for one, other in letters_told_alike(telling):
        if letters[one - 1] != letters[other - 1]:
            return one, other
    return None


def bar_pile(machine, shown, telling):
    """Return a bar against machine in a pile with this telling and so many letters shown."""
    require_number_shown(shown)
    own = telling_for(machine, telling)
    sinks = Sinks(machine)
    if sinks.stays_high(shown):
        return "sink", sinks.way_of(sinks.one, shown), sinks.sink
    pair = unlike_letters(machine, own)
    if shown > 0 or pair is None:
        raise CanNot()
    return ("unlike",) + pair


def is_bar_pile(machine, shown, telling, thing):
    """Tell whether thing is a bar against machine in a pile with this telling and so many letters shown."""
    require_number_shown(shown)
    own = telling_for(machine, telling)
    if not isinstance(thing, tuple) or len(thing) != 3:
        return False
    if thing[0] == "sink":
        return is_sink(machine, shown, thing[1:])
    return thing[0] == "unlike" and shown == 0 and is_unlike_pair(machine, own, thing[1:])


def is_sink(machine, shown, thing):
    """Tell whether thing is a pair of words (v, t), v of so many letters, with v t v of a lesser rank than v."""
    if not is_row_of_words(thing, 2, letters_in(machine)):
        return False
    top, turn = thing
    if len(top) != shown:
        return False
    return rank_of(doing_of(machine, top + turn + top)) < rank_of(doing_of(machine, top))


def is_unlike_pair(machine, telling, thing):
    """Tell whether the pair thing is of letters, one below other, of one token and with unlike doings."""
    one, other = thing
    # A letter is one exactly if it may stand in a word by itself.
    if not is_row_of_words(((one,), (other,)), 2, letters_in(machine)):
        return False
    if one >= other or telling[one - 1] != telling[other - 1]:
        return False
    return doing_of(machine, (one,)) != doing_of(machine, (other,))


class PileRooms:
    """The rooms (s, v) of a keeper of a pile: the state to which what stands leads 0, and what is seen of it."""

    def __init__(self, machine, shown, telling):
        self.letters = letter_doings(machine)
        self.shown = shown
        self.telling = telling
        # What is seen is as long as the rooms are many: where it leads all states is told once for all its rooms.
        self.images = {}

    def triples_of(self, place):
        """Return, ascending, the triples of a room."""
        state, sight = place
        triples = []
        for letter, doing in enumerate(self.letters, start=1):
            longer = seen("pile", sight + (letter,), self.shown)
            triples.append((("in", letter), longer, (doing[state], longer)))
        gone = self.nothing_shown(state) if self.shown == 0 else self.last_gone(state, sight)
        return sorted(triples + gone)

    def nothing_shown(self, state):
        """Return the triples of what may go out if nothing is seen."""
        triples = []
        for token in range(tokens_in(self.telling)):
            # Letters of one token do the same, and none of them leads two states to one.
            doing = self.letters[letters_with(self.telling, token)[0] - 1]
            triples.append((("out", token), (), (doing.index(state), ())))
        return triples

    def last_gone(self, state, sight):
        """Return the triples of what may go out if the last letter is seen."""
        if not sight:
            return []
        letter, rest = sight[-1], sight[:-1]
        # Behind as many letters as are shown there may stand one more, or none.
        fresh = list(range(1, len(self.letters) + 1)) if len(sight) == self.shown else []
        triples = []
        for left in [rest] + [(own,) + rest for own in fresh]:
            for before in self.states_with(left):
                if self.letters[letter - 1][before] == state:
                    triples.append((("out", self.telling[letter - 1]), left, (before, left)))
        return triples

    def states_with(self, sight):
        """Return the states to which words lead 0 of which just this is seen."""
        if sight not in self.images:
            # Fewer letters than are shown are all that stand.
            states = {0: True} if len(sight) < self.shown else {state: True for state in range(len(self.letters[0]))}
            for letter in sight:
                states = {self.letters[letter - 1][state]: True for state in states}
            self.images[sight] = sorted(states)
        return self.images[sight]


def made_pile(machine, shown, telling):
    """Return a keeper of a pile with this telling and so many letters shown that is right for machine."""
    own = telling_for(machine, telling)
    if not is_kept_pile(machine, shown, own):
        raise CanNot()
    ends = least(machine)[1]
    rooms = PileRooms(machine, shown, own)

    def ahead(place):
        return rooms.triples_of(place)

    return keeper_of("pile", shown, own, (0, ()), ahead, lambda place: place[0] in ends, MOST_PILE_ROOMS)
