"""Tellings: which letters have one token, which tellings are finer, and which ones will do."""

from gonetold.checks import is_number, require_letters
from gonetold.errors import CanNot, NoPlace, Unfit
from gonetold.loops import keeps_tails, returns_machine
from gonetold.machines import letters_in, numbered


def is_telling(thing):
    """Tell whether thing is a telling."""
    if not isinstance(thing, tuple) or len(thing) == 0:
        return False
    fresh = 0
    for token in thing:
        if not is_number(token) or not 0 <= token <= fresh:
            return False
        fresh = max(fresh, token + 1)
    return True


def tellings(many):
    """Return, ascending, all tellings of so many letters."""
    found = [()]
    for _ in range(many):
        found = [telling + (token,) for telling in found for token in range(tokens_in(telling) + 1)]
    return found


def told(telling, word):
    """Return the tuple of the tokens of the letters of word."""
    own = telling_as_tuple(telling)
    require_letters(word, len(own))
    return tuple([own[letter - 1] for letter in word])


def spread(telling, tokens):
    """Return, in order, all words with just these tokens."""
    own = telling_as_tuple(telling)
    for token in tokens:
        if token not in own:
            raise NoPlace(token)
    words = [()]
    for token in tokens:
        letters = letters_with(own, token)
        words = [word + (letter,) for word in words for letter in letters]
    return words


def stand_in(telling, word):
    """Return the word in which each letter of word is put by the least one of its token."""
    own = telling_as_tuple(telling)
    require_letters(word, len(own))
    return tuple([letters_with(own, own[letter - 1])[0] for letter in word])


def letters_with(telling, token):
    """Return, ascending, the letters that have this token."""
    return [letter for letter, own in enumerate(telling, start=1) if own == token]


def tokens_in(telling):
    """Return how many tokens are in telling."""
    return max(telling, default=-1) + 1


def is_finer(one, other):
    """Tell whether letters of one token in one have one token in other, too."""
    return met(one, other) == tuple(one)


def joined(one, other):
    """Return, of the tellings coarser than both, the one that is finer than all of these."""
    require_tellings(one, other)
    parts = list(one)
    first = {}
    for place, token in enumerate(other):
        if token not in first:
            first[token] = place
        kept, lost = parts[first[token]], parts[place]
        parts = [kept if own == lost else own for own in parts]
    return telling_by(parts)


def met(one, other):
    """Return, of the tellings finer than both, the one that is coarser than all of these."""
    require_tellings(one, other)
    return telling_by(list(zip(one, other)))


def telling_by(marks):
    """Return the telling in which just the letters with one mark have one token."""
    return tuple(numbered(list(enumerate(marks))).values())


def good_tellings(machine):
    """Return, ascending, all tellings with which machine is kept in a queue with nothing shown."""
    if not keeps_tails(machine):
        return []
    coarse = coarsest(machine)
    return [telling for telling in tellings(letters_in(machine)) if is_finer(telling, coarse)]


def coarsest(machine):
    """Return that one of the good tellings of machine that is coarser than all of them."""
    if not keeps_tails(machine):
        raise CanNot()
    steps = returns_machine(machine)[0]
    return telling_by(list(zip(*steps)))


def telling_for(machine, telling):
    """Return telling as a tuple; Unfit() unless it is a telling of the letters of machine."""
    own = telling_as_tuple(telling)
    if len(own) != letters_in(machine):
        raise Unfit()
    return own


def require_tellings(one, other):
    """Raise Unfit() unless both are tellings of as many letters."""
    if len(telling_as_tuple(one)) != len(telling_as_tuple(other)):
        raise Unfit()


def telling_as_tuple(telling):
    """Return telling, maybe a list, as a tuple; Unfit() if it is none."""
    own = tuple(telling) if isinstance(telling, list) else telling
    if not is_telling(own):
        raise Unfit()
    return own
