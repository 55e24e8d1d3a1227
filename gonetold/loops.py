"""Loops: words that lead a least machine from the start to the start."""

from gonetold.errors import CanNot, TooMuch
from gonetold.machines import least, leads_back, letters_in, pair_ways, state_behind, ways_from
from gonetold.words import is_row_of_words

MOST_RETURNS = 1000


def returns(machine, word):
    """Tell whether word leads the least machine from 0 to 0."""
    return state_behind(least(machine), word) == 0


def returns_machine(machine):
    """Return the least machine that takes just the words that return."""
    return least((least(machine)[0], (0,)))


def lost_word(machine):
    """Return the first word that leads 0 of the least machine to where no word leads back to 0."""
    steps = least(machine)[0]
    for state, word in ways_from(steps, 0).items():
        if 0 not in ways_from(steps, state):
            return word
    raise CanNot()


def breaker(machine):
    """Return the breaker (u, v) whose u is first in order and, with this u, whose v is."""
    found = first_breaker(machine)
    if found is None:
        raise CanNot()
    return found


def first_breaker(machine):
    """Return the breaker that the function breaker tells, or None."""
    steps = least(machine)[0]
    for state, word in ways_from(steps, 0).items():
        if state != 0:
            tails = pair_ways(steps, steps, (0, state))
            if (0, 0) in tails:
                return word, tails[(0, 0)]
    return None


def is_breaker(machine, thing):
    """Tell whether thing is a breaker of machine."""
    if not is_row_of_words(thing, 2, letters_in(machine)):
        return False
    ahead, tail = thing
    return not returns(machine, ahead) and returns(machine, tail) and returns(machine, ahead + tail)


def keeps_tails(machine):
    """Tell whether each state of the least machine leads back to 0 and there is no breaker."""
    return leads_back(machine) and first_breaker(machine) is None


def first_returns(machine, longest):
    """Return, in order, the words of 1 to longest letters that return and of which no shorter beginning does."""
    steps = least(machine)[0]
    far = ways_home(steps)
    found = []
    begun = [(0, ())]
    for left in reversed(range(longest)):
        ahead = [(state, word + (letter,)) for place, word in begun
                 for letter, state in enumerate(steps[place], start=1)]
        found.extend([word for state, word in ahead if state == 0])
        begun = [(state, word) for state, word in ahead if state != 0 and far.get(state, longest) <= left]
        # What is begun can be ended in the letters that are left, each in a way of its own.
        if len(found) + len(begun) > MOST_RETURNS:
            raise TooMuch()
        if not begun:
            break
    return found


def ways_home(steps):
    """Return a dict with, for each state from which a word leads to 0, how many letters the shortest has."""
    far = {}
    for state in range(len(steps)):
        ways = ways_from(steps, state)
        if 0 in ways:
            far[state] = len(ways[0])
    return far
