"""What is kept in a queue of which nothing is shown: keepers, and reasons why there is none."""

from gonetold.doings import letter_doings, one_of, require_doings, then
from gonetold.errors import CanNot
from gonetold.keepers import keeper_of
from gonetold.loops import breaker, is_breaker, keeps_tails, lost_word, returns, returns_machine
from gonetold.machines import least, leads_back, letters_in, parting_way, state_behind, way_to, ways_from
from gonetold.tellings import coarsest, is_finer, letters_with, telling_for, tokens_in
from gonetold.words import is_row_of_words

MOST_MADE_DOINGS = 30


def is_kept(machine, telling):
    """Tell whether some keeper with this telling, nothing shown, is right for machine in a queue."""
    own = telling_for(machine, telling)
    return keeps_tails(machine) and is_finer(own, coarsest(machine))


def why_not(machine, telling):
    """Return a reason against machine and telling."""
    own = telling_for(machine, telling)
    if not leads_back(machine):
        return "lost", lost_word(machine)
    if not keeps_tails(machine):
        return ("tail",) + breaker(machine)
    for one, other in letters_told_alike(own):
        found = unlike_reason(machine, one, other)
        if found is not None:
            return found
    raise CanNot()


def letters_told_alike(telling):
    """Return the pairs of letters, one below other, that have one token."""
    return [(one, other) for token in range(tokens_in(telling)) for one in letters_with(telling, token)
            for other in letters_with(telling, token) if one < other]


def unlike_reason(machine, one, other):
    """Return a reason that tells letters one and other apart, or None."""
    back = returns_machine(machine)
    for state, row in enumerate(back[0]):
        tail = parting_way(back, back, (row[one - 1], row[other - 1]))
        if tail is not None:
            ahead = way_to(back, state)
            if returns(machine, ahead + (one,) + tail):
                return "unlike", ahead, one, other, tail
            return "unlike", ahead, other, one, tail
    return None


def is_why_not(machine, telling, thing):
    """Tell whether thing is a reason against machine and telling."""
    own = telling_for(machine, telling)
    if not isinstance(thing, tuple) or len(thing) == 0:
        return False
    if thing[0] == "lost":
        return is_row_of_words(thing[1:], 1, len(own)) and is_lost(machine, thing[1])
    if thing[0] == "tail":
        return is_breaker(machine, thing[1:])
    return thing[0] == "unlike" and len(thing) == 5 and is_unlike(machine, own, thing)


def is_lost(machine, word):
    """Tell whether word leads 0 of the least machine to where no word leads back to 0."""
    small = least(machine)
    return 0 not in ways_from(small[0], state_behind(small, word))


def is_unlike(machine, telling, thing):
    """Tell whether the tuple thing, ("unlike", ..) of five, is a reason against machine and telling."""
    _, ahead, one, other, tail = thing
    # A letter is one exactly if it may stand in a word by itself.
    if not is_row_of_words((ahead, (one,), (other,), tail), 4, letters_in(machine)):
        return False
    if telling[one - 1] != telling[other - 1]:
        return False
    return returns(machine, ahead + (one,) + tail) and not returns(machine, ahead + (other,) + tail)


def left_state(machine, gone, came):
    """Return the state to which what stands leads 0, if gone and came are the doings of what went and of what came."""
    state = 0
    # If 0 comes again, it does so within as many rounds as there are states.
    for _ in range(len(gone)):
        if gone[state] == 0:
            return came[state]
        state = gone[state]
    raise CanNot()


def made(machine, telling):
    """Return a keeper of a queue with this telling, nothing shown, that is right for machine."""
    own = telling_for(machine, telling)
    if not is_kept(machine, own):
        raise CanNot()
    require_doings(machine, MOST_MADE_DOINGS)
    letters = letter_doings(machine)
    tokens = [letters[letters_with(own, token)[0] - 1] for token in range(tokens_in(own))]
    ends = least(machine)[1]
    one = one_of(machine)

    def ahead(place):
        gone, came = place
        ins = [(("in", at + 1), (), (gone, then(came, doing))) for at, doing in enumerate(letters)]
        return ins + [(("out", at), (), (then(gone, doing), came)) for at, doing in enumerate(tokens)]

    return keeper_of("queue", 0, own, (one, one), ahead, lambda place: left_state(machine, place[0], place[1]) in ends)
