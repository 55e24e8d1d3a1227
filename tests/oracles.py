"""What the document says, told once more in the plainest way, and values to try it with."""

import itertools


def words_up_to(letters, longest):
    """All words of at most longest letters, ordered."""
    return [word for many in range(longest + 1)
            for word in itertools.product(range(1, letters + 1), repeat=many)]


def histories_up_to(letters, many):
    """All histories, sound or not, of at most many deeds."""
    deeds = [("in", letter) for letter in range(1, letters + 1)] + [("out",)]
    return [history for length in range(many + 1) for history in itertools.product(deeds, repeat=length)]


def is_sound_plainly(history):
    """At each out more letters came in than went out ahead of it."""
    for at, deed in enumerate(history):
        ahead = history[:at]
        ins = len([own for own in ahead if own[0] == "in"])
        if deed[0] == "out" and not ins > len(ahead) - ins:
            return False
    return True


def standings_plainly(mode, history):
    """The words that stand, copied each time."""
    word = ()
    words = [word]
    for deed in history:
        if deed[0] == "in":
            word = word + (deed[1],)
        else:
            word = word[1:] if mode == "queue" else word[:-1]
        words.append(word)
    return words


def led(machine, state, word):
    """Where word leads state."""
    for letter in word:
        state = machine[0][state][letter - 1]
    return state


def least_plainly(machine):
    """The least machine, made from words alone: those with which the same words are taken are one state."""
    steps, ends = machine
    letters = len(steps[0])
    behind = words_up_to(letters, len(steps) - 1)

    def sign(word):
        return tuple(led(machine, 0, word + own) in ends for own in behind)

    signs, firsts = {}, []
    for word in behind:
        own = sign(word)
        if own not in signs:
            signs[own] = len(signs)
            firsts.append(word)
    rows = tuple(tuple(signs[sign(word + (letter,))] for letter in range(1, letters + 1)) for word in firsts)
    return rows, tuple(at for at, word in enumerate(firsts) if led(machine, 0, word) in ends)


def all_machines(states, letters):
    """All machines with so many states and letters."""
    rows = list(itertools.product(range(states), repeat=letters))
    for steps in itertools.product(rows, repeat=states):
        for kinds in itertools.product((False, True), repeat=states):
            yield steps, tuple(state for state in range(states) if kinds[state])


def some_machines(states, letters, many):
    """Machines with so many states and letters, told off by a counter that jumps about."""
    number = 12345 + 100 * states + letters
    made = []

    def drawn(below):
        nonlocal number
        number = (number * 1103515245 + 12345) % 2 ** 31
        return (number >> 8) % below

    for _ in range(many):
        steps = tuple(tuple(drawn(states) for _ in range(letters)) for _ in range(states))
        made.append((steps, tuple(state for state in range(states) if drawn(3) == 0)))
    return made


def lists_all_through(value):
    """value with a list for each tuple."""
    if isinstance(value, (tuple, list)):
        return [lists_all_through(own) for own in value]
    return value


def nested(levels, kind, inside=()):
    """A value nested so many levels deep."""
    value = inside
    for _ in range(levels - 1):
        value = kind((value,))
    return value


PIECES = (0, 1, -1, 2, 13, 10 ** 40, -(10 ** 40), True, False, None, "", "in", "out", "queue", "pile", "In", "1",
          (), [], (1,), [1], (0,), ("in", 1), ["in", 1], ("out",), ["out"], (("out",),), ((),), ((0,),),
          nested(97, tuple), nested(97, list))


def changed(value):
    """value with one place, at any depth, put by another piece, left out, twice, turned or made a list."""
    yield from PIECES
    if isinstance(value, (tuple, list)):
        kind = type(value)
        yield list(value) if kind is tuple else tuple(value)
        yield value[::-1]
        for at, own in enumerate(value):
            for new in changed(own):
                yield value[:at] + kind((new,)) + value[at + 1:]
            yield value[:at] + value[at + 1:]
            yield value[:at + 1] + value[at:]
            yield value[:at] + kind(reversed(value[at:at + 2])) + value[at + 2:]
        for new in PIECES:
            yield value + kind((new,))
            yield kind((new,)) + value
    elif isinstance(value, int) and not isinstance(value, bool):
        yield -value
        yield value + 1
        yield value - 1
        yield bool(value)
        yield str(value)
        yield [value]
        yield (value,)
