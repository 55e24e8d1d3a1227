"""What a thing must be, told once more in the plainest way: breakers, reasons, bars, never papers, keepers."""

from tests.oracles import led, words_up_to


def is_word_plainly(thing, letters):
    """Whether thing is a word of so many letters."""
    return type(thing) is tuple and all(type(own) is int and 0 < own <= letters for own in thing)


def are_words_plainly(thing, many, letters):
    """Whether thing is a tuple of just so many words of so many letters."""
    return type(thing) is tuple and len(thing) == many and all(is_word_plainly(own, letters) for own in thing)


def leads_home(small, state):
    """Whether some word leads state of a least machine to 0: if one does, one as short as there are states does."""
    return any(led(small, state, word) == 0 for word in words_up_to(len(small[0][0]), len(small[0]) - 1))


def is_breaker_plainly(small, thing):
    """Whether thing is a breaker of a least machine."""
    if not are_words_plainly(thing, 2, len(small[0][0])):
        return False
    ahead, tail = thing
    return led(small, 0, ahead) != 0 and led(small, 0, tail) == 0 and led(small, 0, ahead + tail) == 0


def is_reason_plainly(small, telling, thing):
    """Whether thing is a reason against a least machine and a telling."""
    letters = len(telling)
    if type(thing) is not tuple or not thing or type(thing[0]) is not str:
        return False
    if thing[0] == "lost":
        return are_words_plainly(thing[1:], 1, letters) and not leads_home(small, led(small, 0, thing[1]))
    if thing[0] == "tail":
        return is_breaker_plainly(small, thing[1:])
    if thing[0] != "unlike" or len(thing) != 5:
        return False
    _, ahead, one, other, tail = thing
    if not is_word_plainly(ahead, letters) or not is_word_plainly(tail, letters):
        return False
    if type(one) is not int or type(other) is not int or not (0 < one <= letters and 0 < other <= letters):
        return False
    back = [led(small, 0, ahead + (letter,) + tail) == 0 for letter in (one, other)]
    return telling[one - 1] == telling[other - 1] and back == [True, False]


def states_behind(small, word):
    """The states of a least machine to which a word leads some state."""
    return {led(small, state, word) for state in range(len(small[0]))}


def is_bar_plainly(small, shown, thing):
    """Whether thing is a bar against a least machine with so many letters shown."""
    if not are_words_plainly(thing, 2, len(small[0][0])):
        return False
    gone, ahead = thing
    return len(ahead) == shown and led(small, 0, ahead) not in states_behind(small, gone + ahead)


def is_never_paper_plainly(small, thing):
    """Whether thing is a never paper of a least machine."""
    if not are_words_plainly(thing, 3, len(small[0][0])):
        return False
    ahead, gone, turn = thing
    once, twice = [[led(small, state, turn * times) for state in range(len(small[0]))] for times in (1, 2)]
    if turn == () or once != twice:
        return False
    return led(small, 0, ahead + turn) not in states_behind(small, gone + ahead + turn)


def is_telling_plainly(thing):
    """Whether thing is a telling."""
    if type(thing) is not tuple or not thing or any(type(token) is not int for token in thing):
        return False
    return thing[0] == 0 and all(0 <= token <= 1 + max(thing[:at]) for at, token in enumerate(thing) if at)


def is_keeper_plainly(thing):
    """Whether thing is a keeper."""
    if type(thing) is not tuple or len(thing) != 6:
        return False
    mode, shown, telling, answers, begin, table = thing
    if type(mode) is not str or mode not in ("queue", "pile") or type(shown) is not int or shown < 0:
        return False
    if not is_telling_plainly(telling) or type(answers) is not tuple or type(table) is not tuple:
        return False
    if answers == () or {type(answer) for answer in answers} != {bool} or len(answers) != len(table):
        return False
    rooms = list(range(len(answers)))
    if type(begin) is not int or begin not in rooms or any(type(row) is not tuple for row in table):
        return False
    for row in table:
        if any(not is_triple_plainly(triple, shown, telling, rooms) for triple in row):
            return False
        if list(row) != sorted(set(row)) or len({triple[:2] for triple in row}) != len(row):
            return False
    return True


def is_triple_plainly(thing, shown, telling, rooms):
    """Whether thing may stand in the table of such a keeper."""
    if type(thing) is not tuple or len(thing) != 3:
        return False
    heard, sight, room = thing
    if type(heard) is not tuple or len(heard) != 2 or type(heard[0]) is not str or type(heard[1]) is not int:
        return False
    if heard not in [("in", at + 1) for at in range(len(telling))] + [("out", token) for token in telling]:
        return False
    return is_word_plainly(sight, len(telling)) and len(sight) <= shown and type(room) is int and room in rooms


def is_pile_bar_plainly(small, shown, telling, thing):
    """Whether thing is a bar against a least machine in a pile with so many letters shown and a telling."""
    letters, states = len(telling), range(len(small[0]))
    if type(thing) is not tuple or len(thing) != 3 or type(thing[0]) is not str:
        return False
    if thing[0] == "sink":
        if not are_words_plainly(thing[1:], 2, letters) or len(thing[1]) != shown:
            return False
        return len(states_behind(small, thing[1] + thing[2] + thing[1])) < len(states_behind(small, thing[1]))
    _, one, other = thing
    if thing[0] != "unlike" or shown != 0 or type(one) is not int or type(other) is not int:
        return False
    if not 0 < one < other <= letters or telling[one - 1] != telling[other - 1]:
        return False
    return any(small[0][state][one - 1] != small[0][state][other - 1] for state in states)
