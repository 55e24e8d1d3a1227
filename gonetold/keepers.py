"""Keepers: rooms, what is answered in them, and where a keeper goes wrong."""

from gonetold.checks import is_letter, is_number, is_place
from gonetold.errors import TooMuch, Unfit
from gonetold.machines import letters_in, takes
from gonetold.tellings import is_telling, tokens_in
from gonetold.words import heard_along, is_mode, is_word_of, seen, stands

MOST_PAIRS = 2000


class Mover:
    """Goes from room to room of one keeper."""

    def __init__(self, keeper):
        self.mode, self.shown, self.telling, self.answers, self.begin, self.table = keeper
        # Most rooms of a great keeper are never come to: a row is read when its room is.
        self.rows = {}

    def next_room(self, room, heard, sight):
        """Return the room to which it goes on from room by what it hears and sees."""
        if room not in self.rows:
            self.rows[room] = {(tuple(ear), tuple(eye)): target for ear, eye, target in self.table[room]}
        return self.rows[room].get((heard, sight), room)

    def does(self, room, word, deed):
        """Return the room and the word that stands behind deed, done in room with word standing."""
        if deed[0] == "in":
            heard, left = deed, word + (deed[1],)
        elif self.mode == "queue":
            heard, left = ("out", self.telling[word[0] - 1]), word[1:]
        else:
            heard, left = ("out", self.telling[word[-1] - 1]), word[:-1]
        return self.next_room(room, heard, seen(self.mode, left, self.shown)), left


def is_keeper(thing):
    """Tell whether thing is a keeper."""
    if not isinstance(thing, tuple) or len(thing) != 6:
        return False
    mode, shown, telling, answers, begin, table = thing
    if not is_mode(mode) or not is_number(shown) or shown < 0 or not is_telling(telling):
        return False
    if not isinstance(answers, tuple) or not all([isinstance(answer, bool) for answer in answers]):
        return False
    if not is_place(begin, len(answers)) or not isinstance(table, tuple) or len(table) != len(answers):
        return False
    letters, tokens = len(telling), tokens_in(telling)
    return all([is_room_row(row, letters, tokens, shown, len(answers)) for row in table])


def is_room_row(thing, letters, tokens, shown, rooms):
    """Tell whether thing may be what the table of such a keeper has for a room."""
    if not isinstance(thing, tuple):
        return False
    for triple in thing:
        if not isinstance(triple, tuple) or len(triple) != 3:
            return False
        heard, sight, room = triple
        if not is_heard(heard, letters, tokens) or not is_word_of(sight, letters):
            return False
        if len(sight) > shown or not is_place(room, rooms):
            return False
    # The rooms need not be compared: no two triples have the same ahead of them.
    return all([low[:2] < high[:2] for low, high in zip(thing, thing[1:])])


def is_heard(thing, letters, tokens):
    """Tell whether thing may be heard with so many letters and tokens."""
    if not isinstance(thing, tuple) or len(thing) != 2:
        return False
    if thing[0] == "in":
        return is_letter(thing[1]) and thing[1] <= letters
    return thing[0] == "out" and is_place(thing[1], tokens)


def rooms_along(keeper, history):
    """Return the rooms in which keeper is at first and behind each deed of history."""
    mover = Mover(keeper)
    rooms = [mover.begin]
    for heard, sight in heard_along(mover.mode, mover.shown, mover.telling, history):
        rooms.append(mover.next_room(rooms[-1], heard, sight))
    return rooms


def answers_along(keeper, history):
    """Return what keeper answers at first and behind each deed of history."""
    return [keeper[3][room] for room in rooms_along(keeper, history)]


def answer_behind(keeper, history):
    """Return what keeper answers behind history."""
    return answers_along(keeper, history)[-1]


def parts(keeper, machine, history):
    """Tell whether keeper answers wrongly behind history."""
    require_letters_of(keeper, machine)
    return answer_behind(keeper, history) != takes(machine, stands(keeper[0], history))


def first_parting(keeper, machine, many):
    """Return the first history of at most many deeds behind which keeper answers wrongly, or None."""
    require_letters_of(keeper, machine)
    mover = Mover(keeper)
    met = {(mover.begin, ()): True}
    level = [(mover.begin, (), ())]
    for longest in range(many + 1):
        for room, word, history in level:
            if mover.answers[room] != takes(machine, word):
                return history
        if longest < many:
            level = next_level(mover, met, level)
    return None


def next_level(mover, met, level):
    """Return the triples (room, word, history) with a pair (room, word) not met yet, one deed behind level.

    The histories in level ascend, and so do those that are returned. TooMuch() if more pairs are met than may be.
    """
    longer = []
    for room, word, history in level:
        for deed in deeds_behind(word, len(mover.telling)):
            pair = mover.does(room, word, deed)
            if pair not in met:
                met[pair] = True
                longer.append(pair + (history + (deed,),))
        if len(met) > MOST_PAIRS:
            raise TooMuch()
    return longer


def deeds_behind(word, letters):
    """Return, ascending, the deeds that can be done while word stands."""
    ins = [("in", letter) for letter in range(1, letters + 1)]
    return ins + [("out",)] if word else ins


def keeper_of(mode, shown, telling, begin, ahead, answer, most=None):
    """Return the keeper whose rooms are places, begin the first one, numbered as they are first come to.

    ahead tells of a place its triples (heard, seen, place), ascending but for the place; answer what is answered there.
    TooMuch() if there are more rooms than most.
    """
    rooms = {begin: 0}
    waiting = [begin]
    table = []
    while len(table) < len(waiting):
        triples = ahead(waiting[len(table)])
        row = []
        for heard, sight, place in triples:
            if place not in rooms:
                rooms[place] = len(rooms)
                waiting.append(place)
            row.append((heard, sight, rooms[place]))
        table.append(tuple(row))
        if most is not None and len(rooms) > most:
            raise TooMuch()
    return mode, shown, telling, tuple([answer(place) for place in waiting]), 0, tuple(table)


def require_letters_of(keeper, machine):
    """Raise Unfit() unless both have as many letters."""
    if len(keeper[2]) != letters_in(machine):
        raise Unfit()
