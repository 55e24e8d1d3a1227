"""What is kept in a queue of which nothing is told: levels, rows, and keepers with as few rooms as can be."""

from gonetold.checks import require_letters
from gonetold.doings import letter_doings, then
from gonetold.errors import CanNot, Unfit
from gonetold.keepers import keeper_of
from gonetold.machines import first_words, least, letters_in, state_behind

MOST_ROWS = 1000


def is_levelled(machine):
    """Tell whether all words of some number of letters, from 1 on, return."""
    return found_levels(machine) is not None


def level_of(machine):
    """Return the level of machine."""
    return len(levels(machine))


def levels(machine):
    """Return the sets of the states to which words of 0, 1, .. letters, fewer than the level, lead 0."""
    found = found_levels(machine)
    if found is None:
        raise CanNot()
    return found


def found_levels(machine):
    """Return what levels tells, or None if machine is not levelled."""
    steps = least(machine)[0]
    found = [(0,)]
    # A level is at most as great as there are states.
    for _ in range(len(steps)):
        ahead = tuple(sorted({target for state in found[-1] for target in steps[state]}))
        if ahead == (0,):
            return tuple(found)
        found.append(ahead)
    return None


def unlevelled(machine):
    """Return for each number from 1 to that of the states the first word of so many letters that does not return."""
    if is_levelled(machine):
        raise CanNot()
    steps = least(machine)[0]
    firsts = {0: ()}
    found = []
    for _ in range(len(steps)):
        firsts = one_letter_more(steps, firsts)
        found.append([word for state, word in firsts.items() if state != 0][0])
    return tuple(found)


def one_letter_more(steps, firsts):
    """Return the first words one letter longer than those in firsts, in order, that lead 0 to each state."""
    longer = {}
    for state, word in firsts.items():
        for letter, target in enumerate(steps[state], start=1):
            if target not in longer:
                longer[target] = word + (letter,)
    return longer


def row_of(machine, word):
    """Return the row of word: where it leads 0 without its first 0, 1, .. letters, fewer than the level."""
    level = level_of(machine)
    require_letters(word, letters_in(machine))
    if len(word) < level:
        raise Unfit()
    return row_behind(machine, level, word)


def row_behind(machine, level, word):
    """Return the row of word, of letters of machine, which has this level."""
    small = least(machine)
    return tuple([state_behind(small, word[at:]) for at in range(level)])


def first_row(machine):
    """Return the row of as many letters 1 as the level of machine is."""
    level = level_of(machine)
    return row_behind(machine, level, (1,) * level)


def level_rows(machine):
    """Return the set of the rows of all words."""
    begin = first_row(machine)
    letters = letter_doings(machine)
    # A row of letters behind as many letters 1 is the row of these letters alone: so letters lead to each row.
    return tuple(sorted(first_words(begin, lambda row: [then(row, doing) for doing in letters], MOST_ROWS)))


def fewest_rooms(machine):
    """Return how many rows there are: no right keeper that is told nothing has fewer rooms."""
    return len(level_rows(machine))


def made_level(machine):
    """Return a keeper of a queue, nothing shown and nothing told, that is right for machine."""
    begin = first_row(machine)
    letters = letter_doings(machine)
    ends = least(machine)[1]

    def ahead(row):
        ins = [(("in", letter), (), then(row, doing)) for letter, doing in enumerate(letters, start=1)]
        return ins + [(("out", 0), (), row[1:] + row[:1])]

    return keeper_of("queue", 0, (0,) * len(letters), begin, ahead, lambda row: row[0] in ends, MOST_ROWS)
