"""One judge: gonetold/judge.py."""

import unittest

from gonetold.errors import TooMuch, Unfit
from gonetold.judge import (comes_of, first_false, is_claim, is_paper_against, is_paper_for, is_so, paper, verdicts)
from gonetold.keepers import first_parting, parts
from gonetold.kept import is_kept, is_why_not, made
from gonetold.leastshown import is_never_paper, least_shown
from gonetold.levels import is_levelled, level_of
from gonetold.loops import keeps_tails
from gonetold.machines import is_machine, least, letters_in
from gonetold.pilejudge import is_right, is_table, least_table
from gonetold.piles import is_kept_pile, least_pile, made_pile
from gonetold.shown import is_kept_shown
from gonetold.tellings import coarsest, is_finer, is_telling, tellings
from gonetold.words import outs, puts
from tests.oracles import (PIECES, answers_plainly, changed, is_sound_plainly, led, levelled_machines,
                           lists_all_through, nested, ring, some_machines, standings_plainly, turning_machines)
from tests.papers import (is_bar_plainly, is_keeper_plainly, is_never_paper_plainly, is_pile_bar_plainly,
                          is_reason_plainly, is_telling_plainly)
from tests.test_pilejudge import bent, is_table_plainly, ring_keeper
from tests.test_refuted import counting_keeper, moving_keeper
from tests.test_things import is_machine_plainly

ODD, LAST, SOME = (((1,), (0,)), (1,)), (((1, 0), (1, 0)), (1,)), (((1, 0), (1, 1)), (1,))
ODDS, TWOS, PAIR = (((1, 0), (0, 1)), (1,)), (((1, 2), (0, 0), (0, 0)), (1,)), (((1, 0), (2, 0), (2, 0)), (2,))
TURNS, NOTHING = (((1, 1), (0, 2), (2, 0)), (0,)), (((0, 0),), ())
BY_TURNS = ("pile", 0, (0,), (False, True), 0, (((("in", 1), (), 1), (("out", 0), (), 1)),
                                               ((("in", 1), (), 0), (("out", 0), (), 0))))
ONES = ("queue", 0, (0, 1)) + (BY_TURNS[3:5]) + ((((("in", 1), (), 1), (("out", 0), (), 1)),
                                                 ((("in", 1), (), 0), (("out", 0), (), 0))),)
BLIND = ("pile", 0, (0,), (False,), 0, ((),))
ALL_DOINGS = (((1, 1, 0), (2, 0, 0), (3, 2, 2), (4, 3, 3), (0, 4, 4)), (0,))
MACHINES = ([ODD, LAST, SOME, ODDS, TWOS, PAIR, TURNS, NOTHING] + turning_machines(3, 2, 2) + levelled_machines(2, 3)
            + some_machines(3, 2, 5) + some_machines(2, 1, 2) + some_machines(3, 3, 2))


def keepers_of(machine):
    """Some keepers of piles and of queues, of as many letters as machine."""
    letters, made_ones = letters_in(machine), []
    for mode in ("queue", "pile"):
        for shown in (0, 1):
            telling = tellings(letters)[-1 if shown == 0 else 0]
            made_ones += [moving_keeper(mode, shown, telling, rooms, 4) for rooms in (1, 2)]
            made_ones.append(counting_keeper(mode, shown, telling, 2))
            if mode == "pile" and is_kept_pile(machine, shown, telling):
                own = made_pile(machine, shown, telling)
                made_ones += [own] + bent(own, 3, 2)
    return made_ones


def queue_keeps(machine, shown, telling):
    return is_kept_shown(machine, shown) if shown else is_kept(machine, telling)


def claims_of(machine):
    """Claims of each kind, true ones and others, about a machine."""
    told = tellings(letters_in(machine))
    claims = [(kind, machine, telling) for kind in ("kept", "coarsest") for telling in told]
    claims += [("level", machine, level) for level in (1, 2, 3, 7)]
    claims += [("shown", machine, shown) for shown in range(4)] + [("never", machine)]
    claims += [("pile", machine, shown, telling) for shown in range(3) for telling in told]
    return claims + [("right", keeper, machine) for keeper in keepers_of(machine)
                     if keeper[0] == "pile" or not queue_keeps(machine, keeper[1], keeper[2])]


CLAIMS = [claim for machine in MACHINES for claim in claims_of(machine)]


def is_so_plainly(claim):
    kind, rest = claim[0], claim[1:]
    if kind == "kept":
        return is_kept(rest[0], rest[1])
    if kind == "coarsest":
        return keeps_tails(rest[0]) and coarsest(rest[0]) == rest[1]
    if kind == "level":
        return is_levelled(rest[0]) and level_of(rest[0]) == rest[1]
    if kind == "shown":
        return is_kept_shown(rest[0], rest[1])
    if kind == "never":
        return least_shown(rest[0]) is None
    if kind == "pile":
        return is_kept_pile(rest[0], rest[1], rest[2])
    return rest[0][0] == "pile" and is_right(rest[0], rest[1])


def is_paper_for_plainly(claim, thing):
    """Whether thing is a paper for a claim."""
    kind, rest = claim[0], claim[1:]
    if kind == "never":
        return is_never_paper_plainly(least(rest[0]), thing)
    if kind == "pile":
        return is_keeper_plainly(thing) and thing[:3] == ("pile",) + rest[1:] and is_right(thing, rest[0])
    if kind == "right":
        return rest[0][0] == "pile" and is_table_plainly(rest[0], rest[1], thing)
    return type(thing) is tuple and thing == () and is_so_plainly(claim)


def is_paper_against_plainly(claim, thing):
    """Whether thing is a paper against a claim."""
    kind, rest = claim[0], claim[1:]
    if kind == "kept":
        return is_reason_plainly(least(rest[0]), rest[1], thing)
    if kind == "coarsest":
        if not keeps_tails(rest[0]):
            return is_reason_plainly(least(rest[0]), tuple(range(letters_in(rest[0]))), thing)
        return not is_so_plainly(claim) and is_telling_plainly(thing) and thing == coarsest(rest[0])
    if kind == "level":
        level = level_of(rest[0]) if is_levelled(rest[0]) else 0
        return type(thing) is int and thing == level != rest[1]
    if kind == "shown":
        return is_bar_plainly(least(rest[0]), rest[1], thing)
    if kind == "never":
        return type(thing) is int and thing == least_shown(rest[0])
    if kind == "pile":
        return is_pile_bar_plainly(least(rest[0]), rest[1], rest[2], thing)
    if not is_sound_history_plainly(thing, len(rest[0][2])):
        return False
    taken = led(rest[1], 0, standings_plainly(rest[0][0], thing)[-1]) in rest[1][1]
    return answers_plainly(rest[0], thing)[-1] != taken


def is_sound_history_plainly(thing, letters):
    """Whether thing is a sound history of so many letters."""
    if type(thing) is not tuple or any(type(deed) is not tuple for deed in thing):
        return False
    for deed in thing:
        if deed != ("out",) and not (len(deed) == 2 and deed[0] == "in" and type(deed[1]) is int and 0 < deed[1] <= letters):
            return False
    return is_sound_plainly(thing)


def is_claim_plainly(thing):
    """Whether thing is a claim."""
    if type(thing) is not tuple or not thing or type(thing[0]) is not str:
        return False
    kind, rest = thing[0], thing[1:]
    lengths = {"kept": 2, "coarsest": 2, "level": 2, "shown": 2, "never": 1, "pile": 3, "right": 2}
    if kind not in lengths or len(rest) != lengths[kind]:
        return False
    machine = rest[1] if kind == "right" else rest[0]
    if not is_machine_plainly(machine):
        return False
    letters = len(machine[0][0])
    if kind in ("kept", "coarsest"):
        return is_telling_plainly(rest[1]) and len(rest[1]) == letters
    if kind in ("level", "shown"):
        return type(rest[1]) is int and rest[1] >= (1 if kind == "level" else 0)
    if kind == "pile":
        return type(rest[1]) is int and rest[1] >= 0 and is_telling_plainly(rest[2]) and len(rest[2]) == letters
    if kind == "right":
        if not is_keeper_plainly(rest[0]) or len(rest[0][2]) != letters:
            return False
        return rest[0][0] == "pile" or not queue_keeps(machine, rest[0][1], rest[0][2])
    return True


NEAR = (("kept", ODDS, (0, 1)), ("coarsest", ODD, (0,)), ("level", ODD, 2), ("shown", LAST, 0), ("never", SOME),
        ("pile", LAST, 1, (0, 0)), ("right", BY_TURNS, ODD), ("right", ("queue", 0) + BLIND[2:], ODD[:1] + ((),)),
        ("right", ("queue", 1, (0, 1)) + BLIND[3:], SOME), ("right", ONES, LAST))


class IsClaimTest(unittest.TestCase):

    def test_claims(self):
        for claim in CLAIMS:
            self.assertIs(is_claim(claim), True, claim)
            self.assertIs(is_claim(list(claim)), False)

    def test_things_near_claims(self):
        for value in NEAR:
            told = {True: 0, False: 0}
            for thing in (value,) + tuple(changed(value)):
                expected = is_claim_plainly(thing)
                self.assertIs(is_claim(thing), expected, repr(thing))
                told[expected] += 1
            self.assertGreater(min(told.values()), 0)

    def test_a_keeper_of_a_queue_of_what_is_kept_makes_no_claim(self):
        for keeper, machine, expected in ((ONES, ODDS, False), (ONES, LAST, True), (ONES[:2] + ((0, 0),) + ONES[3:], ODDS, True),
                                          (("queue", 1) + ONES[2:], LAST, False), (("queue", 0) + ONES[2:], LAST, True),
                                          (("queue", 3) + ONES[2:], SOME, True), (("pile",) + ONES[1:], ODDS, True),
                                          (("queue",) + BY_TURNS[1:], ODD, False), (BY_TURNS, LAST, False)):
            self.assertIs(is_claim(("right", keeper, machine)), expected, (keeper, machine))

    def test_other_things(self):
        deep = tuple(nested(levels, kind) for levels in (96, 99, 100) for kind in (tuple, list))
        kinds = ("kept", "coarsest", "level", "shown", "never", "pile", "right")
        for own in PIECES + deep + kinds:
            for thing in (own, (own,), (own, own), (own, 1), (own, (), (0, 0)), (LAST, own, (0, 0)), [own, LAST]):
                self.assertIs(is_claim(thing), False, kinds)
            for kind in kinds:
                for thing in ((kind, own), (kind, own, (0, 1)), (kind, own, own), (kind, own, own, own), (kind, LAST, own, own)):
                    self.assertIs(is_claim(thing), False)
        self.assertIs(is_claim(("level", LAST, 10 ** 5000)), True)
        self.assertIs(is_claim(("shown", LAST, 10 ** 5000)), True)
        self.assertIs(is_claim(("level", LAST, 0)), False)
        self.assertIs(is_claim(("kept", LAST, (0,))), False)
        self.assertIs(is_claim(("Kept", LAST, (0, 0))), False)


class IsSoTest(unittest.TestCase):

    def test_what_each_says(self):
        told = {}
        for claim in CLAIMS:
            expected = is_so_plainly(claim)
            self.assertIs(is_so(claim), expected, claim)
            self.assertIs(is_so(lists_all_through(claim)), expected)
            told[claim[0], expected] = True
        self.assertEqual(len(told), 14)

    def test_unfit(self):
        for claim in (None, (), "kept", ("kept",), ("level", ODD, 0), ("level", ODD, True), ("kept", ODD, (0, 0)), 7,
                      ("right", ONES, ODDS), ("right", BY_TURNS, LAST), ("never",), ("pile", ODD, -1, (0,)), [[]],
                      ("shown", ODD, "1"), ("never", ODD, ()), nested(100, list)):
            for own in (is_so, paper):
                with self.assertRaises(Unfit):
                    own(claim)
            for own in (is_paper_for, is_paper_against):
                with self.assertRaises(Unfit):
                    own(claim, ())
            for claims in ((claim,), (("never", ODD), claim), (claim, ("pile", ring(501), 0, (0,)))):
                with self.assertRaises(Unfit):
                    verdicts(claims, ((),) * len(claims))
                with self.assertRaises(Unfit):
                    first_false(claims)
                with self.assertRaises(Unfit):
                    comes_of(("never", ODD), claims)
            with self.assertRaises(Unfit):
                comes_of(claim, ())

    def test_unfit_ahead_of_too_much(self):
        great = ("pile", ring(501), 0, (0,))
        for claims in ((great, ("kept", ODD, ())), (great, great, None)):
            with self.assertRaises(Unfit):
                verdicts(claims, ((),) * len(claims))
            with self.assertRaises(Unfit):
                first_false(claims)
        for things in ((), ((), ())):
            with self.assertRaises(Unfit):
                verdicts((great,), things)
        with self.assertRaises(Unfit):
            verdicts((), ((),))

    def test_too_much(self):
        for claim in (("pile", ring(501), 0, (0,)), ("pile", ALL_DOINGS, 1, (0, 0, 0)),
                      ("right", ring_keeper(1001), ring(3)), ("right", ring_keeper(1001), ring(1001))):
            for own in (is_so, paper):
                with self.assertRaises(TooMuch):
                    own(claim)
            for thing in ((), None, ("sink", (), (1,)), puts((1,)), ring_keeper(3)):
                with self.assertRaises(TooMuch):
                    is_paper_for(claim, thing)
                with self.assertRaises(TooMuch):
                    is_paper_against(claim, thing)
                with self.assertRaises(TooMuch):
                    verdicts((("never", ODD), claim), ((), thing))
            with self.assertRaises(TooMuch):
                first_false((("kept", ODD, (0,)), claim))
            # What is asked for is found ahead of it.
            self.assertEqual(first_false((("never", ODD), claim)), 0)
            self.assertIs(comes_of(claim, (claim,)), True)

    def test_papers_that_would_be_too_great(self):
        with self.assertRaises(TooMuch):
            paper(("pile", LAST, 9, (0, 0)))
        self.assertIs(is_so(("pile", LAST, 9, (0, 0))), True)
        never = (((0,),), ())
        with self.assertRaises(TooMuch):
            paper(("right", ring_keeper(1000, (601,)), never))
        self.assertIs(is_so(("right", ring_keeper(1000, (601,)), never)), False)
        self.assertEqual(paper(("right", ring_keeper(1000, (600,)), never)), puts((1,) * 600))
        self.assertIs(is_paper_against(("right", ring_keeper(1000, (601,)), never), puts((1,) * 601)), True)

    def test_a_thing_may_be_beyond_the_bounds(self):
        claim = ("pile", ODD, 0, (0,))
        counted = ring_keeper(1200, range(1, 1200, 2))
        self.assertEqual(verdicts((claim,) * 3, (counted, ring_keeper(1200), BY_TURNS)), ["for", "none", "for"])
        with self.assertRaises(TooMuch):
            is_right(counted, ODD)


class PaperTest(unittest.TestCase):

    def test_of_each_claim_one_and_of_one_kind_alone(self):
        told = {}
        for claim in CLAIMS:
            own = paper(claim)
            so = is_so_plainly(claim)
            self.assertIs(is_paper_for(claim, own), so, (claim, own))
            self.assertIs(is_paper_against(claim, own), not so, (claim, own))
            self.assertIs(is_paper_for_plainly(claim, own), so)
            self.assertIs(is_paper_against_plainly(claim, own), not so, (claim, own))
            self.assertEqual(verdicts((claim,), (own,)), ["for" if so else "against"])
            told[claim[0], so] = told.get((claim[0], so), 0) + 1
        self.assertEqual(len(told), 14, told)

    def test_no_value_is_a_paper_both_for_and_against(self):
        for machine in MACHINES[:9]:
            claims = claims_of(machine)
            values = [paper(claim) for claim in claims] + list(PIECES) + [0, 1, 2, (0,), (0, 0), (0, 1)]
            for claim in claims:
                for thing in values:
                    given = (is_paper_for(claim, thing), is_paper_against(claim, thing))
                    self.assertNotEqual(given, (True, True), (claim, thing))
                    self.assertEqual(given[is_so_plainly(claim)], False)

    def test_papers_told_plainly(self):
        for machine in (ODD, LAST, ODDS, TWOS):
            claims = claims_of(machine)
            values = [paper(claim) for claim in claims] + list(PIECES) + [0, 1, 2, 3, (0,), (0, 0), (0, 1)]
            for claim in claims:
                for thing in values:
                    expected = ("for" if is_paper_for_plainly(claim, thing)
                                else "against" if is_paper_against_plainly(claim, thing) else "none")
                    self.assertEqual(verdicts((claim,), (thing,)), [expected], (claim, thing))

    def test_things_near_papers(self):
        for claim in (("kept", ODD, (0,)), ("kept", LAST, (0, 1)), ("kept", ODDS, (0, 0)), ("coarsest", ODDS, (0, 1)),
                      ("coarsest", ODDS, (0, 0)), ("coarsest", LAST, (0, 1)), ("level", ODD, 2), ("level", ODD, 1),
                      ("level", LAST, 1), ("shown", LAST, 1), ("shown", LAST, 0), ("never", SOME), ("never", LAST),
                      ("pile", ODD, 0, (0,)), ("pile", LAST, 0, (0, 1)), ("pile", TURNS, 0, (0, 0)),
                      ("right", BY_TURNS, ODD), ("right", BLIND, ODD), ("right", ONES, LAST)):
            value, told = paper(claim), 0
            for thing in (value,) + tuple(changed(value)):
                expected = ("for" if is_paper_for_plainly(claim, thing)
                            else "against" if is_paper_against_plainly(claim, thing) else "none")
                self.assertEqual(verdicts([claim], [thing]), [expected], (claim, repr(thing)))
                self.assertIs(is_paper_for(claim, thing), expected == "for")
                self.assertIs(is_paper_against(claim, thing), expected == "against")
                told += expected != "none"
            self.assertGreater(told, 0, claim)

    def test_what_carries_nothing(self):
        for claim in (("kept", ODD, (0,)), ("coarsest", ODD, (0,)), ("level", ODD, 2), ("shown", LAST, 1)):
            self.assertEqual(paper(claim), ())
            for thing in ([], 0, None, False, "", ((),), 2, (0,)):
                self.assertEqual(verdicts((claim,), (thing,)), ["none"], (claim, thing))

    def test_numbers_against(self):
        for claim, number in ((("level", ODD, 1), 2), (("level", LAST, 1), 0), (("never", LAST), 1), (("never", ODD), 0),
                              (("level", NOTHING, 2), 1)):
            self.assertEqual(paper(claim), number)
            for thing in (True, False, None, (number,), str(number), number + 1, -number - 1, 10 ** 5000):
                self.assertEqual(verdicts((claim,), (thing,)), ["none"], (claim, number))
        self.assertEqual(verdicts((("level", ODD, 2), ("level", LAST, 2)), (2, False)), ["none", "none"])

    def test_histories_against(self):
        for claim in (("right", BLIND, ODD), ("right", ONES, LAST), ("right", ("queue", 2) + ONES[2:], SOME)):
            keeper, machine = claim[1:]
            for thing in ((), puts((1,)), puts((1, 1)), outs(1), puts((1,)) + outs(1), puts((2,)), puts((3,)), puts((1,)) + outs(2),
                          list(puts((1,))), puts((1, 1, 1)) + outs(1), puts((10 ** 5000,))):
                expected = is_paper_against_plainly(claim, thing)
                self.assertIs(is_paper_against(claim, thing), expected, claim)
                self.assertIs(is_paper_for(claim, thing), False)
            self.assertIs(parts(keeper, machine, paper(claim)), True)

    def test_a_list_within_things_is_a_list(self):
        for claim in (("kept", LAST, (0, 1)), ("right", BY_TURNS, ODD), ("pile", ODD, 0, (0,)), ("kept", ODD, (0,))):
            own = paper(claim)
            self.assertNotEqual(verdicts([lists_all_through(claim)], [own]), ["none"])
            self.assertEqual(verdicts((claim,), [lists_all_through(own)]), ["none"])

    def test_many_at_once(self):
        claims = claims_of(ODD) + claims_of(LAST)
        papers = [paper(claim) for claim in claims]
        self.assertEqual(verdicts(claims, papers), ["for" if is_so_plainly(claim) else "against" for claim in claims])
        self.assertEqual(verdicts((), ()), [])
        self.assertEqual(verdicts(claims, [object] * 0 + [None] * len(claims)), ["none"] * len(claims))

    def test_papers_of_other_claims_about_piles(self):
        # A right keeper, but with another number shown, another telling, or of a queue.
        claim = ("pile", ODDS, 1, (0, 0))
        for shown, telling, expected in ((1, (0, 0), "for"), (0, (0, 1), "none"), (1, (0, 1), "none"), (2, (0, 0), "none")):
            self.assertEqual(verdicts((claim,), (made_pile(ODDS, shown, telling),)), [expected])
        self.assertEqual(verdicts((("pile", ODD, 0, (0,)),), (made(ODD, (0,)),)), ["none"])
        self.assertIsNone(first_parting(("pile",) + made(ODD, (0,))[1:], ODD, 8))


def next_ones(claim, universe):
    """The claims in universe that come of claim by one rule, as the document tells the rules."""
    kind, machine = claim[0], claim[1]
    for other in universe:
        if other[1] != machine:
            continue
        if kind == "kept":
            if other[0] == "kept" and is_finer(other[2], claim[2]) or other[0] == "shown":
                yield other
        elif kind == "coarsest":
            if other == ("kept",) + claim[1:]:
                yield other
        elif kind == "level":
            if other == ("kept", machine, (0,) * letters_in(machine)):
                yield other
        elif kind == "shown":
            if other[0] == "shown" and other[2] > claim[2]:
                yield other
        elif kind == "pile" and other[0] == "pile":
            if other[2] == claim[2] and (claim[2] > 0 or is_finer(other[3], claim[3])) or other[2] > claim[2]:
                yield other


def closure(claims, universe):
    found = list(claims)
    for claim in found:
        found.extend(other for other in next_ones(claim, universe) if other not in found)
    return found


class ComesOfTest(unittest.TestCase):

    def universe(self, machine):
        return [claim for claim in claims_of(machine) if claim[0] != "right"] + [
            ("right", keeper, machine) for keeper in keepers_of(machine)[-2:]]

    def test_of_one_by_the_rules(self):
        for machine, more in ((ODDS, LAST), (ODD, ring(3)), (turning_machines(3, 3, 1)[0], SOME)):
            universe = self.universe(machine) + self.universe(more)[:12]
            for claim in universe:
                found = closure([claim], universe)
                for other in universe:
                    self.assertIs(comes_of(other, (claim,)), other in found, (other, claim))

    def test_of_some(self):
        universe = self.universe(ODDS) + self.universe(LAST)
        for at in range(0, len(universe) - 3, 2):
            claims = tuple(universe[at:at + 3])
            found = closure(claims, universe)
            for other in universe:
                self.assertIs(comes_of(other, claims), other in found)
                self.assertIs(comes_of(lists_all_through(other), lists_all_through(claims)), other in found)
        for claim in universe:
            self.assertIs(comes_of(claim, ()), False)

    def test_what_is_so_gives_what_is_so(self):
        for machine in MACHINES:
            universe = self.universe(machine)
            so = [claim for claim in universe if is_so_plainly(claim)]
            for claim in closure(so, universe):
                self.assertIs(is_so_plainly(claim), True, claim)

    def test_alike_machines_are_two(self):
        wide = (((2, 1), (2, 1), (2, 3), (2, 1)), (2,))
        self.assertIs(comes_of(("shown", wide, 2), (("shown", LAST, 1),)), False)
        self.assertIs(comes_of(("shown", LAST, 10 ** 30), (("shown", LAST, 1),)), True)

    def test_of_one_keeper_and_unlike_machines(self):
        machines = (LAST, SOME, ODDS, (((0, 0),), ()))
        claims = [("right", ("pile",) + ONES[1:], machine) for machine in machines]
        for one in claims:
            for other in claims:
                self.assertIs(comes_of(one, (other,)), one == other)

    def test_by_hand(self):
        for claim, claims, expected in (
                (("shown", ODD, 0), (("kept", ODD, (0,)),), True), (("kept", ODD, (0,)), (("shown", ODD, 0),), False),
                (("coarsest", ODD, (0,)), (("kept", ODD, (0,)),), False), (("level", ODD, 2), (("level", ODD, 3),), False),
                (("kept", ODDS, (0, 1)), (("level", ODDS, 9),), True), (("kept", ODDS, (0, 0)), (("coarsest", ODDS, (0, 1)),), False),
                (("shown", ODDS, 7), (("never", ODDS), ("coarsest", ODDS, (0, 1))), True),
                (("pile", ODDS, 1, (0, 0)), (("pile", ODDS, 0, (0, 1)),), True),
                (("pile", ODDS, 0, (0, 0)), (("pile", ODDS, 0, (0, 1)),), False),
                (("pile", ODDS, 0, (0, 1)), (("pile", ODDS, 0, (0, 0)),), True),
                (("pile", ODDS, 1, (0, 0)), (("pile", ODDS, 1, (0, 1)),), True),
                (("pile", ODDS, 1, (0, 0)), (("pile", ODDS, 2, (0, 0)),), False),
                (("pile", ODDS, 1, (0, 0)), (("kept", ODDS, (0, 0)),), False),
                (("never", SOME), (("never", SOME),), True), (("never", SOME), (("never", LAST),), False)):
            self.assertIs(comes_of(claim, claims), expected, (claim, claims))


class FirstFalseTest(unittest.TestCase):

    def test_the_first_place(self):
        self.assertIsNone(first_false(()))
        for machine in MACHINES[:10]:
            claims = claims_of(machine)
            for at in range(0, len(claims), 3):
                own = claims[at:at + 5]
                expected = next((place for place, claim in enumerate(own) if not is_so_plainly(claim)), None)
                self.assertEqual(first_false(tuple(own)), expected)
                self.assertEqual(first_false(lists_all_through(own)), expected)

    def test_all_are_so(self):
        so = [claim for claim in CLAIMS if is_so_plainly(claim)][:60]
        self.assertIsNone(first_false(so))
        self.assertEqual(first_false(so + [("never", ODD)]), 60)


class KindsTest(unittest.TestCase):

    def test_each_kind_of_paper(self):
        self.assertIs(is_why_not(LAST, (0, 1), paper(("coarsest", LAST, (0, 0)))), True)
        self.assertEqual(paper(("coarsest", ODDS, (0, 0))), (0, 1))
        self.assertIs(is_never_paper(SOME, paper(("never", SOME))), True)
        self.assertIs(is_table(BY_TURNS, ODD, paper(("right", BY_TURNS, ODD))), True)
        self.assertEqual(paper(("right", BY_TURNS, ODD)), least_table(BY_TURNS, ODD))
        self.assertEqual(paper(("pile", ODD, 0, (0,))), BY_TURNS)
        self.assertEqual((paper(("never", PAIR)), least_pile(PAIR)), (2, 2))
        self.assertTrue(is_telling(paper(("coarsest", TWOS, (0, 1)))) and is_machine(TWOS))


if __name__ == "__main__":
    unittest.main()
