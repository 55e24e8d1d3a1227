"""One judge of claims: whether they are so, and papers for them and against them."""

from gonetold.checks import is_number, tuples_throughout
from gonetold.errors import Unfit
from gonetold.keepers import is_keeper, parts
from gonetold.kept import is_kept, is_why_not, why_not
from gonetold.leastshown import is_never_paper, least_shown, never_paper
from gonetold.levels import found_levels
from gonetold.loops import keeps_tails
from gonetold.machines import is_machine, letters_in
from gonetold.pilejudge import closed, is_right, is_table, judged
from gonetold.piles import bar_pile, is_bar_pile, is_kept_pile, made_pile
from gonetold.refuted import is_kept_so, refuted
from gonetold.shown import bar, is_bar, is_kept_shown
from gonetold.tellings import coarsest, is_finer, is_telling
from gonetold.words import is_history_of, is_sound


def is_claim(thing):
    """Tell whether thing is a claim."""
    if not isinstance(thing, tuple) or len(thing) == 0:
        return False
    kind, rest = thing[0], thing[1:]
    if kind == "never":
        return len(rest) == 1 and is_machine(rest[0])
    if kind == "pile":
        return len(rest) == 3 and is_number_from(rest[1], 0) and is_told(rest[0], rest[2])
    if len(rest) != 2:
        return False
    if kind == "kept" or kind == "coarsest":
        return is_told(rest[0], rest[1])
    if kind == "level":
        return is_machine(rest[0]) and is_number_from(rest[1], 1)
    if kind == "shown":
        return is_machine(rest[0]) and is_number_from(rest[1], 0)
    return kind == "right" and is_decidable(rest[0], rest[1])


def is_number_from(thing, low):
    """Tell whether thing is a number from low on."""
    return is_number(thing) and thing >= low


def is_told(machine, telling):
    """Tell whether these are a machine and a telling of its letters."""
    return is_machine(machine) and is_telling(telling) and len(telling) == letters_in(machine)


def is_decidable(keeper, machine):
    """Tell whether these are a keeper and a machine of which it can be decided whether the keeper is right."""
    if not is_keeper(keeper) or not is_told(machine, keeper[2]):
        return False
    # A keeper of a queue is wrong if the machine is not kept so: if it is, nothing can decide.
    return keeper[0] == "pile" or not is_kept_so(machine, keeper[0], keeper[1], keeper[2])


def is_so(claim):
    """Tell whether claim is so."""
    return holds(claim_of(claim))


def claim_of(thing):
    """Return thing, maybe with lists for tuples, as a claim; Unfit() if it is none."""
    claim = tuples_throughout(thing)
    if not is_claim(claim):
        raise Unfit()
    return claim


def holds(claim):
    """Tell whether a claim, a tuple throughout, is so."""
    kind, rest = claim[0], claim[1:]
    if kind == "kept":
        return is_kept(rest[0], rest[1])
    if kind == "coarsest":
        return coarsest_of(rest[0]) == rest[1]
    if kind == "level":
        return found_level(rest[0]) == rest[1]
    if kind == "shown":
        return is_kept_shown(rest[0], rest[1])
    if kind == "never":
        return least_shown(rest[0]) is None
    if kind == "pile":
        return is_kept_pile(rest[0], rest[1], rest[2])
    return rest[0][0] == "pile" and is_right(rest[0], rest[1])


def coarsest_of(machine):
    """Return the coarsest telling with which machine is kept, or None."""
    return coarsest(machine) if keeps_tails(machine) else None


def found_level(machine):
    """Return the level of machine, or 0 if it is not levelled."""
    found = found_levels(machine)
    return 0 if found is None else len(found)


def paper(claim):
    """Return a paper for claim if it is so, else one against it."""
    own = claim_of(claim)
    return paper_for(own) if holds(own) else paper_against(own)


def paper_for(claim):
    """Return a paper for a claim that is so."""
    kind, rest = claim[0], claim[1:]
    if kind == "never":
        return never_paper(rest[0])
    if kind == "pile":
        return made_pile(rest[0], rest[1], rest[2])
    if kind == "right":
        return judged(rest[0], rest[1])[1]
    return ()


def paper_against(claim):
    """Return a paper against a claim that is not so."""
    kind, rest = claim[0], claim[1:]
    if kind == "kept":
        return why_not(rest[0], rest[1])
    if kind == "coarsest":
        found = coarsest_of(rest[0])
        return why_not(rest[0], finest(rest[0])) if found is None else found
    if kind == "level":
        return found_level(rest[0])
    if kind == "shown":
        return bar(rest[0], rest[1])
    if kind == "never":
        return least_shown(rest[0])
    if kind == "pile":
        return bar_pile(rest[0], rest[1], rest[2])
    return judged(rest[0], rest[1])[1] if rest[0][0] == "pile" else refuted(rest[0], rest[1])


def finest(machine):
    """Return the telling with a token for each letter of machine."""
    return tuple(range(letters_in(machine)))


def is_paper_for(claim, thing):
    """Tell whether thing is a paper for claim."""
    return verdict(claim_of(claim), thing) == "for"


def is_paper_against(claim, thing):
    """Tell whether thing is a paper against claim."""
    return verdict(claim_of(claim), thing) == "against"


def verdict(claim, thing):
    """Return "for", "against" or "none", as thing is a paper for claim, against it, or none."""
    # What is so has no paper against it, and what is not so has none for it.
    if holds(claim):
        return "for" if fits_for(claim, thing) else "none"
    return "against" if fits_against(claim, thing) else "none"


def fits_for(claim, thing):
    """Tell whether thing is a paper for a claim that is so."""
    kind, rest = claim[0], claim[1:]
    if kind == "never":
        return is_never_paper(rest[0], thing)
    if kind == "pile":
        return is_keeper(thing) and thing[:3] == ("pile",) + rest[1:] and closed(thing, rest[0], None).fits
    if kind == "right":
        return is_table(rest[0], rest[1], thing)
    return isinstance(thing, tuple) and len(thing) == 0


def fits_against(claim, thing):
    """Tell whether thing is a paper against a claim that is not so."""
    kind, rest = claim[0], claim[1:]
    if kind == "kept":
        return is_why_not(rest[0], rest[1], thing)
    if kind == "coarsest":
        found = coarsest_of(rest[0])
        if found is None:
            return is_why_not(rest[0], finest(rest[0]), thing)
        return is_telling(thing) and thing == found
    if kind == "level":
        return is_number(thing) and thing == found_level(rest[0])
    if kind == "shown":
        return is_bar(rest[0], rest[1], thing)
    if kind == "never":
        return is_number(thing) and thing == least_shown(rest[0])
    if kind == "pile":
        return is_bar_pile(rest[0], rest[1], rest[2], thing)
    if not is_history_of(thing, letters_in(rest[1])) or not is_sound(thing):
        return False
    return parts(rest[0], rest[1], thing)


def verdicts(claims, things):
    """Return for each claim and the thing at its place "for", "against" or "none"."""
    own = [claim_of(claim) for claim in claims]
    if len(own) != len(things):
        raise Unfit()
    return [verdict(claim, thing) for claim, thing in zip(own, things)]


def comes_of(claim, claims):
    """Tell whether claim comes of some of claims."""
    own = claim_of(claim)
    others = [claim_of(other) for other in claims]
    return any([comes_of_one(own, other) for other in others])


def comes_of_one(claim, other):
    """Tell whether claim is other or comes of it."""
    if claim == other:
        return True
    # All that comes of these two comes of what they say of one telling.
    if other[0] == "coarsest":
        return comes_of_one(claim, ("kept",) + other[1:])
    if other[0] == "level":
        return comes_of_one(claim, ("kept", other[1], (0,) * letters_in(other[1])))
    if claim[1] != other[1]:
        return False
    if other[0] == "kept":
        return claim[0] == "shown" or (claim[0] == "kept" and is_finer(claim[2], other[2]))
    if claim[0] != other[0]:
        return False
    if claim[0] == "shown":
        return claim[2] >= other[2]
    return claim[0] == "pile" and comes_of_pile(claim, other)


def comes_of_pile(claim, other):
    """Tell whether one claim of a pile comes of another one of the same machine."""
    if claim[2] != other[2]:
        return claim[2] > other[2]
    return other[2] > 0 or is_finer(claim[3], other[3])


def first_false(claims):
    """Return the first place whose claim is not so, or None."""
    own = [claim_of(claim) for claim in claims]
    for place, claim in enumerate(own):
        if not holds(claim):
            return place
    return None
