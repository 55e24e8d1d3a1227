"""Machines: where words lead, what is taken, the least machine and the ways in it."""

from gonetold.checks import is_place, is_set_of_places, require_letters
from gonetold.errors import CanNot, NoPlace, TooMuch, Unfit


def is_machine(thing):
    """Tell whether thing is a machine."""
    if not isinstance(thing, tuple) or len(thing) != 2:
        return False
    steps, ends = thing
    return are_steps(steps) and is_set_of_places(ends, len(steps))


def are_steps(thing):
    """Tell whether thing may be the steps of a machine."""
    if not isinstance(thing, tuple) or len(thing) == 0:
        return False
    if not all([is_row_of_states(row, len(thing)) for row in thing]):
        return False
    return all([len(row) == len(thing[0]) for row in thing])


def is_row_of_states(thing, many):
    """Tell whether thing may be the row of one state in a machine with so many states."""
    if not isinstance(thing, tuple) or len(thing) == 0:
        return False
    return all([is_place(state, many) for state in thing])


def letters_in(machine):
    """Return how many letters machine has."""
    return len(machine[0][0])


def leads(machine, state, word):
    """Return the state to which word leads state."""
    require_state(machine, state)
    require_letters(word, letters_in(machine))
    steps = machine[0]
    for letter in word:
        state = steps[state][letter - 1]
    return state


def state_behind(machine, word):
    """Return the state to which word leads state 0."""
    return leads(machine, 0, word)


def takes(machine, word):
    """Tell whether machine takes word."""
    return state_behind(machine, word) in machine[1]


def least(machine):
    """Return the least machine alike to machine."""
    steps, ends = machine
    order = list(ways_from(steps, 0))
    block = blocks(steps, ends, order)
    # The order is that in which words come to the states of machine, so the blocks are
    # met, and with them the rows are put in, in that in which words first come to them.
    rows = {}
    for state in order:
        rows[block[state]] = tuple([block[target] for target in steps[state]])
    least_ends = sorted({block[state] for state in order if state in ends})
    return tuple(rows.values()), tuple(least_ends)


def blocks(steps, ends, order):
    """Return for each state in order a number, one for just those that take the same words.

    The numbers are those in which order first meets them.
    """
    finer = numbered([(state, (state in ends,)) for state in order])
    block = {}
    while block != finer:
        block = finer
        finer = numbered([(state, block_row(block, steps, state)) for state in order])
    return block


def block_row(block, steps, state):
    """Return the block of state and those to which its letters lead it."""
    return (block[state],) + tuple([block[target] for target in steps[state]])


def numbered(marked):
    """Return for each state of the pairs (state, mark) the number of its mark, as they are first met."""
    numbers = {}
    found = {}
    for state, mark in marked:
        if mark not in numbers:
            numbers[mark] = len(numbers)
        found[state] = numbers[mark]
    return found


def are_alike(one, other):
    """Tell whether both machines take the same words."""
    require_as_many_letters(one, other)
    return least(one) == least(other)


def parting_word(one, other):
    """Return the first word that just one of both machines takes."""
    require_as_many_letters(one, other)
    word = parting_way(one, other, (0, 0))
    if word is None:
        raise CanNot()
    return word


def parting_way(one, other, pair):
    """Return the first word that leads just one of a pair of states, of one and of other, to an end, or None."""
    for places, word in pair_ways(one[0], other[0], pair).items():
        if (places[0] in one[1]) != (places[1] in other[1]):
            return word
    return None


def way_to(machine, state):
    """Return the first word that leads 0 to state in the least machine."""
    small = least(machine)
    require_state(small, state)
    return ways_from(small[0], 0)[state]


def way_back(machine, state):
    """Return the first word that leads state to 0 in the least machine."""
    small = least(machine)
    require_state(small, state)
    ways = ways_from(small[0], state)
    if 0 not in ways:
        raise CanNot()
    return ways[0]


def leads_back(machine):
    """Tell whether from each state of the least machine some word leads to 0."""
    steps = least(machine)[0]
    return all([0 in ways_from(steps, state) for state in range(len(steps))])


def ways_from(steps, state):
    """Return the first words, in order, that lead state to each state that is come to from it."""
    return first_words(state, lambda place: steps[place])


def pair_ways(one, other, pair):
    """Return the first words, in order, that lead a pair of states, by the steps one and other, to each pair."""
    return first_words(pair, lambda places: list(zip(one[places[0]], other[places[1]])))


def first_words(begin, ahead, most=None):
    """Return a dict with the first word that leads begin to each place, in the order of these words.

    ahead tells of a place to which places the letters 1, 2, .. lead it. TooMuch() if they are more than most.
    """
    ways = {begin: ()}
    waiting = [begin]
    at = 0
    while at < len(waiting):
        place = waiting[at]
        at += 1
        for letter, target in enumerate(ahead(place), start=1):
            if target not in ways:
                ways[target] = ways[place] + (letter,)
                waiting.append(target)
        if most is not None and len(ways) > most:
            raise TooMuch()
    return ways


def require_state(machine, state):
    """Raise NoPlace(state) unless machine has this state."""
    if not 0 <= state < len(machine[0]):
        raise NoPlace(state)


def require_as_many_letters(one, other):
    """Raise Unfit() unless both machines have as many letters."""
    if letters_in(one) != letters_in(other):
        raise Unfit()
