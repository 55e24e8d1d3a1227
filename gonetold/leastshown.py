"""How few letters shown will do for a queue, and why none will."""

from gonetold.checks import require_number_shown
from gonetold.doings import doing_of, is_idempotent, then
from gonetold.errors import CanNot
from gonetold.machines import letters_in
from gonetold.shown import Bars, bar, is_barred
from gonetold.words import is_row_of_words


def barred(machine, shown):
    """Return the set of the barred pairs for so many letters shown."""
    require_number_shown(shown)
    bars = Bars(machine)
    level = list(bars.begins)
    for _ in range(shown):
        level = list({target: True for pair in level for target in bars.ahead[pair].values()})
    return tuple(sorted(level))


def least_shown(machine):
    """Return the least number of letters shown with which machine is kept in a queue, or None."""
    bars = Bars(machine)
    if not all([pair in bars.height for pair in bars.begins]):
        return None
    return max([bars.height[pair] + 1 for pair in bars.begins], default=0)


def longest_bar(machine):
    """Return a bar against machine with one letter shown less than the least number that will do."""
    fewest = least_shown(machine)
    if fewest is None or fewest == 0:
        raise CanNot()
    return bar(machine, fewest - 1)


def never_paper(machine):
    """Return a never paper (u, x, w) of machine."""
    bars = Bars(machine)
    for pair in bars.begins:
        if pair not in bars.height:
            ahead, turn = way_round(bars, pair)
            return ahead, bars.firsts[pair[1]], idempotent_turn(machine, turn)
    raise CanNot()


def way_round(bars, pair):
    """Return a word that leads pair, from which a way goes on for ever, to some pair, and one that leads that round."""
    places = {}
    word = []
    while pair not in places:
        places[pair] = len(word)
        letter = min([own for own, target in bars.ahead[pair].items() if target not in bars.height])
        word.append(letter)
        pair = bars.ahead[pair][letter]
    return tuple(word[:places[pair]]), tuple(word[places[pair]:])


def idempotent_turn(machine, turn):
    """Return the word turn so often behind itself that its doing is idempotent."""
    doing = doing_of(machine, turn)
    power, word = doing, turn
    while not is_idempotent(power):
        power, word = then(power, doing), word + turn
    return word


def is_never_paper(machine, thing):
    """Tell whether thing is a never paper of machine."""
    if not is_row_of_words(thing, 3, letters_in(machine)):
        return False
    ahead, gone, turn = thing
    if len(turn) == 0 or not is_idempotent(doing_of(machine, turn)):
        return False
    return is_barred(machine, gone, ahead + turn)
