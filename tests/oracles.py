"""What the document says, told once more in the plainest way, and values to try it with."""

import itertools


def words_up_to(letters, longest):
    """All words of at most longest letters, ordered."""
    return [word for many in range(longest + 1)
            for word in itertools.product(range(1, letters + 1), repeat=many)]


def histories_up_to(letters, many):
    """All histories, sound or not, of at most many deeds."""
    deeds = [("in", letter) for letter in range(1, letters + 1)] + [("out",)]
    return [history for length in range(many + 1) for history in itertools.product(deeds, repeat=length)]


def is_sound_plainly(history):
    """At each out more letters came in than went out ahead of it."""
    for at, deed in enumerate(history):
        ahead = history[:at]
        ins = len([own for own in ahead if own[0] == "in"])
        if deed[0] == "out" and not ins > len(ahead) - ins:
            return False
    return True


def standings_plainly(mode, history):
    """The words that stand, copied each time."""
    word = ()
    words = [word]
    for deed in history:
        if deed[0] == "in":
            word = word + (deed[1],)
        else:
            word = word[1:] if mode == "queue" else word[:-1]
        words.append(word)
    return words


def led(machine, state, word):
    """Where word leads state."""
    for letter in word:
        state = machine[0][state][letter - 1]
    return state


def least_plainly(machine):
    """The least machine, made from words alone: those with which the same words are taken are one state."""
    steps, ends = machine
    letters = len(steps[0])
    behind = words_up_to(letters, len(steps) - 1)

    def sign(word):
        return tuple(led(machine, 0, word + own) in ends for own in behind)

    signs, firsts = {}, []
    for word in behind:
        own = sign(word)
        if own not in signs:
            signs[own] = len(signs)
            firsts.append(word)
    rows = tuple(tuple(signs[sign(word + (letter,))] for letter in range(1, letters + 1)) for word in firsts)
    return rows, tuple(at for at, word in enumerate(firsts) if led(machine, 0, word) in ends)


def all_machines(states, letters):
    """All machines with so many states and letters."""
    rows = list(itertools.product(range(states), repeat=letters))
    for steps in itertools.product(rows, repeat=states):
        for kinds in itertools.product((False, True), repeat=states):
            yield steps, tuple(state for state in range(states) if kinds[state])


def jumping(seed):
    """A function that draws a number below another one, the same ones each time for one seed."""
    number = seed

    def drawn(below):
        nonlocal number
        number = (number * 1103515245 + 12345) % 2 ** 31
        return (number >> 8) % below

    return drawn


def some_machines(states, letters, many):
    """Machines with so many states and letters, told off by a counter that jumps about."""
    drawn, made = jumping(12345 + 100 * states + letters), []
    for _ in range(many):
        steps = tuple(tuple(drawn(states) for _ in range(letters)) for _ in range(states))
        made.append((steps, tuple(state for state in range(states) if drawn(3) == 0)))
    return made


def levelled_machines(letters, many):
    """Machines whose states stand on steps of a round: of these some are kept with nothing told."""
    drawn, made = jumping(777 + letters), []
    for _ in range(many):
        steps_round = [[0]]
        states = 1
        for _ in range(1 + drawn(3)):
            width = 1 + drawn(3)
            steps_round.append(list(range(states, states + width)))
            states += width
        rows = []
        for at, floor in enumerate(steps_round):
            ahead = steps_round[(at + 1) % len(steps_round)]
            rows.extend(tuple(ahead[drawn(len(ahead))] for _ in range(letters)) for _ in floor)
        made.append((tuple(rows), tuple(state for state in range(states) if drawn(2))))
    return made


def turning_machines(states, letters, many):
    """Machines whose letters only exchange states."""
    drawn, made = jumping(4321 + 10 * states + letters), []
    for _ in range(many):
        columns = []
        for _ in range(letters):
            left = list(range(states))
            columns.append([left.pop(drawn(len(left))) for _ in range(states)])
        made.append((tuple(zip(*columns)), tuple(state for state in range(states) if drawn(2))))
    return made


def ring(states, ends=(0,)):
    """The machine of one letter that leads round so many states."""
    return tuple(((state + 1) % states,) for state in range(states)), ends


def doings_plainly(machine):
    """The first word of each doing, in order, made from all words of 0, 1, .. letters until no length has a new one."""
    letters = len(machine[0][0])
    found, fresh, length = {}, True, 0
    while fresh:
        fresh = False
        for word in itertools.product(range(1, letters + 1), repeat=length):
            doing = tuple(led(machine, state, word) for state in range(len(machine[0])))
            if doing not in found:
                found[doing] = word
                fresh = True
        length += 1
    return found


def answers_plainly(keeper, history):
    """What a keeper answers at first and behind each deed: its table is gone through each time."""
    mode, shown, telling, answers, room, table = keeper
    rows = standings_plainly(mode, history)
    told = [answers[room]]
    for at, deed in enumerate(history):
        heard = deed
        if deed == ("out",):
            heard = ("out", telling[rows[at][0 if mode == "queue" else -1] - 1])
        row = rows[at + 1]
        sight = row[:shown] if mode == "queue" else row[len(row) - min(shown, len(row)):]
        for own, eye, target in table[room]:
            if own == heard and eye == sight:
                room = target
                break
        told.append(answers[room])
    return told


def wrong_behind(keeper, machine, history):
    """Whether a keeper answers wrongly behind some beginning of history."""
    rows = standings_plainly(keeper[0], history)
    return answers_plainly(keeper, history) != [led(machine, 0, word) in machine[1] for word in rows]


def sound_histories(letters, many):
    """All sound histories of just many deeds."""
    return [history for history in histories_up_to(letters, many)
            if len(history) == many and is_sound_plainly(history)]


def long_histories(letters, deeds, many):
    """Sound histories of so many deeds, in some of which the row grows, in others falls, told off by a counter."""
    drawn, made = jumping(99 + letters), []
    for at in range(many):
        history, standing = [], 0
        for place in range(deeds):
            down = (at + place // 40) % 3
            if standing and drawn(5) < 1 + down:
                history.append(("out",))
                standing -= 1
            else:
                history.append(("in", 1 + drawn(letters)))
                standing += 1
        made.append(tuple(history))
    return made


def lists_all_through(value):
    """value with a list for each tuple."""
    if isinstance(value, (tuple, list)):
        return [lists_all_through(own) for own in value]
    return value


def nested(levels, kind, inside=()):
    """A value nested so many levels deep."""
    value = inside
    for _ in range(levels - 1):
        value = kind((value,))
    return value


PIECES = (0, 1, -1, 2, 13, 10 ** 40, -(10 ** 40), True, False, None, "", "in", "out", "queue", "pile", "In", "1",
          (), [], (1,), [1], (0,), ("in", 1), ["in", 1], ("out",), ["out"], (("out",),), ((),), ((0,),),
          nested(97, tuple), nested(97, list))


def changed(value):
    """value with one place, at any depth, put by another piece, left out, twice, turned or made a list."""
    yield from PIECES
    if isinstance(value, (tuple, list)):
        kind = type(value)
        yield list(value) if kind is tuple else tuple(value)
        yield value[::-1]
        for at, own in enumerate(value):
            for new in changed(own):
                yield value[:at] + kind((new,)) + value[at + 1:]
            yield value[:at] + value[at + 1:]
            yield value[:at + 1] + value[at:]
            yield value[:at] + kind(reversed(value[at:at + 2])) + value[at + 2:]
        for new in PIECES:
            yield value + kind((new,))
            yield kind((new,)) + value
    elif isinstance(value, int) and not isinstance(value, bool):
        yield -value
        yield value + 1
        yield value - 1
        yield bool(value)
        yield str(value)
        yield [value]
        yield (value,)
