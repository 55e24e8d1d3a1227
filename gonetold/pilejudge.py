"""Keepers of piles, judged for all histories: a closed table, or a shortest history behind which one is wrong."""

from gonetold.checks import is_place
from gonetold.errors import TooMuch, Unfit
from gonetold.keepers import Mover, require_letters_of
from gonetold.machines import least, letters_in
from gonetold.words import is_word_of, seen

MOST_TRIPLES = 2000
MOST_DEEDS = 600


class Judge:
    """What a keeper of a pile and the least machine do by one deed."""

    def __init__(self, keeper, machine):
        self.mover = Mover(keeper)
        self.steps, self.ends = least(machine)
        self.letters = list(range(1, letters_in(machine) + 1))
        self.first = (0, (), self.mover.begin)

    def behind_in(self, sight, room, letter):
        """Return what is seen when letter comes in behind sight, and the room to which the keeper goes on."""
        longer = seen("pile", sight + (letter,), self.mover.shown)
        return longer, self.mover.next_room(room, ("in", letter), longer)

    def stand_behind_in(self, stand, letter):
        """Return the triple that must be in stands if stand is, as letter may come in."""
        state, sight, room = stand
        return (self.steps[state][letter - 1],) + self.behind_in(sight, room, letter)

    def turn_around(self, turn, inner, letter):
        """Return the triple of turn, letter that comes in, inner behind that, and letter that goes out."""
        sight, room, _ = turn
        return sight, room, self.mover.next_room(inner[2], ("out", self.mover.telling[letter - 1]), sight)

    def is_wrong(self, stand):
        """Tell whether the keeper answers wrongly in the room of stand."""
        state, _, room = stand
        return self.mover.answers[room] != (state in self.ends)

    def is_stand(self, thing):
        """Tell whether thing may be in stands."""
        if not isinstance(thing, tuple) or len(thing) != 3:
            return False
        return is_place(thing[0], len(self.steps)) and self.is_sight(thing[1]) and self.is_room(thing[2])

    def is_turn(self, thing):
        """Tell whether thing may be in turns."""
        if not isinstance(thing, tuple) or len(thing) != 3:
            return False
        return self.is_sight(thing[0]) and self.is_room(thing[1]) and self.is_room(thing[2])

    def is_sight(self, thing):
        """Tell whether thing is a word of no more letters than are shown."""
        return is_word_of(thing, len(self.letters)) and len(thing) <= self.mover.shown

    def is_room(self, thing):
        """Tell whether thing is a room of the keeper."""
        return is_place(thing, len(self.mover.answers))


class Turns:
    """Triples of turns, as they are found, by what is seen and the room in which they begin.

    askers has the pairs of a triple and a letter that comes in behind it, by what is seen and the room behind both.
    """

    def __init__(self, judge):
        self.judge = judge
        self.begun = {}
        self.askers = {}

    def at(self, sight, room):
        """Return the triples found that begin so."""
        return self.begun.get((sight, room), [])

    def found_with(self, turn):
        """Take in a triple, and return what it makes with those found: (made, turn ahead, turn behind in, letter)."""
        sight, begin, room = turn
        self.begun.setdefault((sight, begin), []).append(turn)
        pairs = []
        for letter in self.judge.letters:
            ahead = self.judge.behind_in(sight, room, letter)
            self.askers.setdefault(ahead, []).append((turn, letter))
            pairs.extend([(turn, inner, letter) for inner in self.at(ahead[0], ahead[1])])
        pairs.extend([(asker, turn, letter) for asker, letter in self.askers.get((sight, begin), [])])
        return [(self.judge.turn_around(asker, inner, letter), asker, inner, letter) for asker, inner, letter in pairs]


class Closing:
    """Makes the least closed table, triple by triple; TooMuch() if there are more of them than most.

    fits tells whether the keeper answers rightly in each triple of stands that is there.
    """

    def __init__(self, judge, most):
        self.judge = judge
        self.most = most
        self.fits = True
        self.stands = {}
        self.turns = {}
        self.waiting = []
        # By what is seen and a room: the states of the triples of stands with both.
        self.states = {}
        self.followed = Turns(judge)

    def take_in(self, triples, more):
        """Put those of more that are new into triples, stands or turns."""
        for triple in more:
            if triple not in triples:
                triples[triple] = True
                self.waiting.append(triple)
        if self.most is not None and len(self.stands) + len(self.turns) > self.most:
            raise TooMuch()

    def close(self):
        """Go on until nothing new comes of the triples that are there; without most only as long as the table fits."""
        self.take_in(self.stands, [self.judge.first])
        done = 0
        while done < len(self.waiting) and (self.fits or self.most is not None):
            triple = self.waiting[done]
            done += 1
            # A triple of turns begins with a word, one of stands with a number.
            if triple in self.turns:
                self.follow_turn(triple)
            else:
                self.follow_stand(triple)

    def follow_stand(self, stand):
        """Take in what comes of a triple of stands."""
        state, sight, room = stand
        self.fits = self.fits and not self.judge.is_wrong(stand)
        self.states.setdefault((sight, room), []).append(state)
        self.take_in(self.turns, [(sight, room, room)])
        self.take_in(self.stands, [self.judge.stand_behind_in(stand, letter) for letter in self.judge.letters])
        self.take_in(self.stands, [(state, sight, turn[2]) for turn in self.followed.at(sight, room)])

    def follow_turn(self, turn):
        """Take in what comes of a triple of turns."""
        sight, begin, room = turn
        self.take_in(self.stands, [(state, sight, room) for state in self.states.get((sight, begin), [])])
        self.take_in(self.turns, [made[0] for made in self.followed.found_with(turn)])

    def made_table(self):
        """Return the table that is made."""
        return tuple(sorted(self.stands)), tuple(sorted(self.turns))


class Shortest:
    """Finds a shortest history behind which a keeper is wrong.

    made_of has for each triple of turns that MOST_DEEDS deeds or fewer do how the fewest do it: () if none do, else the
    turn ahead, the deed that comes in, the turn behind that, and the deed that goes out. lengths has how many they are.
    """

    def __init__(self, judge, turns):
        self.judge = judge
        self.found = Turns(judge)
        self.made_of = {}
        self.lengths = {}
        waiting = {0: [(turn, ()) for turn in turns if turn[1] == turn[2]]}
        for length in range(MOST_DEEDS + 1):
            ready = waiting.pop(length, [])
            for turn, way in ready:
                if turn not in self.made_of:
                    self.made_of[turn] = way
                    self.lengths[turn] = length
                    self.go_on(turn, waiting)

    def go_on(self, turn, waiting):
        """Put into waiting, by their lengths, the turns that are made of turn and of those that are as short."""
        for longer, asker, inner, letter in self.found.found_with(turn):
            if longer not in self.made_of:
                length = self.lengths[asker] + self.lengths[inner] + 2
                waiting.setdefault(length, []).append((longer, (asker, ("in", letter), inner, ("out",))))

    def wrong_history(self):
        """Return a shortest history behind which the keeper is wrong; TooMuch() if it is too long."""
        came_from = {}
        waiting = {0: [(self.judge.first, ())]}
        for length in range(MOST_DEEDS + 1):
            ready = waiting.pop(length, [])
            for stand, way in ready:
                if stand not in came_from:
                    came_from[stand] = way
                    if self.judge.is_wrong(stand):
                        return self.deeds_to(stand, came_from)
                    for many, longer, piece in self.stands_ahead(stand):
                        waiting.setdefault(length + many, []).append((longer, (stand, piece)))
        raise TooMuch()

    def stands_ahead(self, stand):
        """Return the triples of how many deeds lead on from stand, where to, and that deed or turn."""
        state, sight, room = stand
        ins = [(1, self.judge.stand_behind_in(stand, letter), ("in", letter)) for letter in self.judge.letters]
        turns = [turn for turn in self.found.at(sight, room) if self.lengths[turn] > 0]
        return ins + [(self.lengths[turn], (state, sight, turn[2]), turn) for turn in turns]

    def deeds_to(self, stand, came_from):
        """Return the history that leads to stand by the deeds and turns in came_from."""
        pieces = []
        while came_from[stand]:
            stand, piece = came_from[stand]
            pieces.append(piece)
        # The last piece stands first: so the next one is taken off the end.
        deeds = []
        while pieces:
            piece = pieces.pop()
            if piece in self.made_of:
                pieces.extend(list(reversed(self.made_of[piece])))
            else:
                deeds.append(piece)
        return tuple(deeds)


def least_table(keeper, machine):
    """Return the least closed table."""
    return closed(keeper, machine, MOST_TRIPLES).made_table()


def closed(keeper, machine, most):
    """Return what makes the least closed table, done; TooMuch() if that has more triples than most.

    If most is None, it is done only as long as the table fits.
    """
    require_pile(keeper, machine)
    closing = Closing(Judge(keeper, machine), most)
    closing.close()
    return closing


def is_table(keeper, machine, thing):
    """Tell whether thing is a closed table that fits."""
    require_pile(keeper, machine)
    if not isinstance(thing, tuple) or len(thing) != 2:
        return False
    judge = Judge(keeper, machine)
    stands, turns = thing
    if not isinstance(stands, tuple) or not all([judge.is_stand(stand) for stand in stands]):
        return False
    if not isinstance(turns, tuple) or not all([judge.is_turn(turn) for turn in turns]):
        return False
    return ascends(stands) and ascends(turns) and is_closed_and_fits(judge, stands, turns)


def ascends(row):
    """Tell whether each value in row is less than the next one."""
    return all([low < high for low, high in zip(row, row[1:])])


def is_closed_and_fits(judge, stands, turns):
    """Tell whether these triples are a closed table, as nothing new comes of them, and one that fits."""
    closing = Closing(judge, len(stands) + len(turns))
    try:
        closing.take_in(closing.stands, stands)
        closing.take_in(closing.turns, turns)
        closing.close()
    except TooMuch:
        return False
    return closing.fits


def judged(keeper, machine):
    """Return ("right", the least closed table), or ("wrong", a shortest history behind which keeper is wrong)."""
    closing = closed(keeper, machine, MOST_TRIPLES)
    if closing.fits:
        return "right", closing.made_table()
    return "wrong", Shortest(closing.judge, list(closing.turns)).wrong_history()


def is_right(keeper, machine):
    """Tell whether keeper is right for machine."""
    return closed(keeper, machine, MOST_TRIPLES).fits


def require_pile(keeper, machine):
    """Raise Unfit() unless keeper is of piles and both have as many letters."""
    require_letters_of(keeper, machine)
    if keeper[0] != "pile":
        raise Unfit()
