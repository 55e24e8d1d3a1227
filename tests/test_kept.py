"""Queues, nothing shown: gonetold/kept.py."""

import itertools
import unittest

from gonetold.doings import doing_of, doings, then
from gonetold.errors import CanNot, TooMuch, Unfit
from gonetold.keepers import answers_along, first_parting, is_keeper
from gonetold.kept import is_kept, is_why_not, left_state, made, why_not
from gonetold.loops import breaker, lost_word
from gonetold.machines import are_alike, leads_back, least, letters_in, state_behind
from gonetold.tellings import good_tellings, spread, tellings, told
from gonetold.words import puts
from tests.oracles import (PIECES, all_machines, changed, histories_up_to, is_sound_plainly, led, least_plainly,
                           levelled_machines, long_histories, nested, ring, some_machines, standings_plainly,
                           turning_machines, words_up_to, wrong_behind)
from tests.papers import is_keeper_plainly, is_reason_plainly

LAST, ODDS, SOME = (((1, 0), (1, 0)), (1,)), (((1, 0), (0, 1)), (1,)), (((1, 0), (1, 1)), (1,))
TWOS = (((1, 2), (0, 0), (0, 0)), (1,))
# The same as ODDS, with STATES too many, of which none leads back to STATE 0.
LONG_ODDS = (((1, 2), (2, 1), (3, 2), (2, 3)), (1, 3))
NOTHING, EVERYTHING = (((0, 0),), ()), (((1, 1), (0, 0)), (0, 1))
# Of this one letters 1 and 3 lead to a breaker; of that one letter 2 leads to where nothing leads back.
FURTHER, PIT = (((1, 0, 1), (1, 0, 0)), (0,)), (((1, 2), (0, 0), (2, 2)), (1,))
SMALL = ([machine for states, letters in ((1, 1), (1, 2), (2, 1), (2, 2), (3, 1))
          for machine in all_machines(states, letters)] + list(all_machines(3, 2))[::29])
GREATER = (turning_machines(3, 2, 8) + turning_machines(4, 2, 8) + turning_machines(3, 3, 8) + levelled_machines(2, 8)
           + levelled_machines(3, 8) + some_machines(4, 2, 6) + some_machines(6, 3, 4))
NAMED = [LAST, ODDS, SOME, TWOS, LONG_ODDS, NOTHING, EVERYTHING, FURTHER, PIT]
MACHINES = SMALL + GREATER + NAMED
SOUND = {letters: [history for history in histories_up_to(letters, many) if is_sound_plainly(history)]
         for letters, many in ((1, 8), (2, 6), (3, 5))}


def reason_of(machine, telling):
    """A reason against both, or None."""
    try:
        return why_not(machine, telling)
    except CanNot:
        return None


class WhyNotTest(unittest.TestCase):

    def test_kept_exactly_if_there_is_no_reason(self):
        kept = 0
        for machine in MACHINES:
            small = least(machine)
            for telling in tellings(letters_in(machine)):
                reason = reason_of(machine, telling)
                self.assertIs(is_kept(machine, telling), reason is None)
                kept += reason is None
                if reason is not None:
                    self.assertIs(is_reason_plainly(small, telling, reason), True, (machine, telling, reason))
                    self.assertIs(is_why_not(machine, telling, reason), True)
        self.assertGreater(kept, 50)

    def test_no_short_reason_against_what_is_kept(self):
        for machine in SMALL:
            letters = letters_in(machine)
            words = words_up_to(letters, 3)
            for telling in good_tellings(machine):
                things = [("lost", word) for word in words] + [("tail", one, other) for one in words for other in words]
                things += [("unlike", ahead, one, other, tail) for ahead in words for tail in words
                           for one in range(1, letters + 1) for other in range(1, letters + 1)]
                self.assertEqual([thing for thing in things if is_why_not(machine, telling, thing)], [])

    def test_short_things(self):
        for machine in SMALL[::19] + NAMED:
            small = least_plainly(machine)
            letters = letters_in(machine)
            words = words_up_to(letters, 2)
            for telling in tellings(letters):
                things = [("lost", word) for word in words] + [("tail", one, other) for one in words for other in words]
                things += [("unlike", ahead, one, other, tail) for ahead in words for tail in words
                           for one in range(letters + 2) for other in range(letters + 2)]
                for thing in things:
                    self.assertIs(is_why_not(machine, telling, thing), is_reason_plainly(small, telling, thing))

    def test_things_near_reasons(self):
        values = (("lost", (1,)), ("lost", (2, 1, 2)), ("tail", (1,), (2,)), ("tail", (1, 1), (2, 2)),
                  ("unlike", (), 2, 1, ()), ("unlike", (2, 1), 1, 2, (2,)), ("unlike", (1,), 2, 1, (1,)))
        for machine, telling in ((LAST, (0, 1)), (LAST, (0, 0)), (SOME, (0, 0)), (ODDS, (0, 0)), (ODDS, (0, 1)),
                                 (LONG_ODDS, (0, 0)), (PIT, (0, 1)), (FURTHER, (0, 1, 0)), (FURTHER, (0, 0, 1))):
            small = least_plainly(machine)
            told_so = 0
            for value in values:
                for thing in (value, *changed(value)):
                    expected = is_reason_plainly(small, telling, thing)
                    self.assertIs(is_why_not(machine, telling, thing), expected, repr(thing))
                    told_so += expected
            self.assertEqual(told_so > 0, not is_kept(machine, telling))

    def test_reasons_by_hand(self):
        for machine, telling, thing in ((SOME, (0, 0), ("lost", (1,))), (SOME, (0, 1), ("lost", (2, 2, 1, 2))),
                                        (LAST, (0, 1), ("tail", (1, 1), (2,))), (PIT, (0, 1), ("lost", (2,))),
                                        (FURTHER, (0, 1, 2), ("tail", (1,), (2,))),
                                        (ODDS, (0, 0), ("unlike", (1,), 1, 2, ())),
                                        (LONG_ODDS, (0, 0), ("unlike", (1, 2, 1), 2, 1, (2, 2)))):
            self.assertIs(is_why_not(machine, telling, thing), True, thing)

    def test_a_reason_with_one_thing_wrong(self):
        for machine, telling, thing in ((SOME, (0, 0), ("lost", ())), (SOME, (0, 0), ("lost", (2,))),
                                        (SOME, (0, 0), ("lost", (1, 3))), (SOME, (0, 0), ("lost",)),
                                        (SOME, (0, 0), ("lost", (1,), ())), (SOME, (0, 0), ["lost", (1,)]),
                                        (SOME, (0, 0), ("lost", [1])), (SOME, (0, 0), ("lost", 1)),
                                        (SOME, (0, 0), ("lost", (True,))), (SOME, (0, 0), ("Lost", (1,))),
                                        (SOME, (0, 0), ("tail", (1,))), (ODDS, (0, 0), ("lost", (1,))),
                                        (LAST, (0, 1), ("tail", (2,), (2,))), (LAST, (0, 1), ("tail", (1,), ())),
                                        (LAST, (0, 1), ("tail", (1,), (1, 2), ())), (LAST, (0, 1), ("tail", (1,), (4, 2))),
                                        (LAST, (0, 1), ("tail", (1,), [2])), (LAST, (0, 1), ((1,), (2,))),
                                        (ODDS, (0, 1), ("unlike", (), 2, 1, ())), (ODDS, (0, 0), ("unlike", (), 1, 2, ())),
                                        (ODDS, (0, 0), ("unlike", (), 2, 2, ())), (ODDS, (0, 0), ("unlike", (), 2, 3, ())),
                                        (ODDS, (0, 0), ("unlike", (), 2, True, ())), (ODDS, (0, 0), ("unlike", (), 2, 0, ())),
                                        (ODDS, (0, 0), ("unlike", (), 2, -1, ())), (ODDS, (0, 0), ("unlike", (), (2,), (1,), ())),
                                        (ODDS, (0, 0), ("unlike", (3,), 2, 1, ())), (ODDS, (0, 0), ("unlike", (), 2, 1, (0,))),
                                        (ODDS, (0, 0), ("unlike", (), 2, 1)), (ODDS, (0, 0), ("unlike", (), 2, 1, (), ())),
                                        (ODDS, (0, 0), ("unlike",)), (ODDS, (0, 0), ()), (ODDS, (0, 0), None)):
            self.assertIs(is_why_not(machine, telling, thing), False, repr(thing))

    def test_other_things(self):
        deep = tuple(nested(levels, kind) for levels in (98, 99, 100) for kind in (tuple, list))
        for machine, telling in ((LAST, (0, 1)), (SOME, (0, 0)), (ODDS, (0, 0))):
            for thing in PIECES + deep + (("lost", deep[0]), ("tail", (1,), deep[0]), ("unlike", (), 2, deep[0], ())):
                self.assertIs(is_why_not(machine, telling, thing), False)
        self.assertIs(is_why_not(SOME, (0, 0), ("lost", (2,) * 100000 + (1,))), True)
        self.assertIs(is_why_not(SOME, (0, 0), ("lost", (2,) * 100000)), False)
        self.assertIs(is_why_not(ODDS, (0, 0), ("unlike", (2,) * 100000, 2, 1, (2,) * 100000)), True)
        self.assertIs(is_why_not(ODDS, (0, 0), ("unlike", (), 10 ** 5000, 1, ())), False)

    def test_lost_words_and_breakers_are_reasons_against_each_telling(self):
        for machine in MACHINES:
            for telling in tellings(letters_in(machine)):
                if not leads_back(machine):
                    self.assertIs(is_why_not(machine, telling, ("lost", lost_word(machine))), True)
        for machine in (LAST, FURTHER):
            for telling in tellings(letters_in(machine)):
                self.assertIs(is_why_not(machine, telling, ("tail",) + breaker(machine)), True)

    def test_unfit_first_of_all(self):
        for machine in (LAST, ODDS, TWOS, RING_31_TWICE):
            for telling in ((0,), (0, 0, 0), (0, 2), (1, 0), (1, 1), (0, -1), ()):
                for call in (lambda: is_kept(machine, telling), lambda: why_not(machine, telling),
                             lambda: is_why_not(machine, telling, ("lost", (1,))), lambda: made(machine, telling)):
                    with self.assertRaises(Unfit):
                        call()

    def test_cannot_if_it_is_kept(self):
        for machine, telling in ((TWOS, (0, 0)), (TWOS, (0, 1)), (ODDS, (0, 1)), (NOTHING, (0, 0)), (LONG_ODDS, (0, 1)),
                                 (EVERYTHING, (0, 0)), (ring(12, (3,)), (0,)), (ring(31), (0,))):
            with self.assertRaises(CanNot):
                why_not(machine, telling)


RING_31_TWICE = (tuple(((state + 1) % 31,) * 2 for state in range(31)), (0,))


class KeptTest(unittest.TestCase):

    def test_machines_by_hand(self):
        for machine, good in ((NOTHING, [(0, 0), (0, 1)]), (EVERYTHING, [(0, 0), (0, 1)]), (LONG_ODDS, [(0, 1)]),
                              (PIT, []), (LAST, []), (SOME, []), (TWOS, [(0, 0), (0, 1)]), (ODDS, [(0, 1)]),
                              ((((0,),), ()), [(0,)]), ((((1,), (0,)), (1,)), [(0,)]), ((((1,), (1,)), (1,)), [])):
            self.assertEqual([own for own in tellings(letters_in(machine)) if is_kept(machine, own)], good)

    def test_alike_machines_are_kept_alike(self):
        self.assertIs(are_alike(LONG_ODDS, ODDS), True)
        for telling in ((0, 0), (0, 1)):
            self.assertIs(is_kept(LONG_ODDS, telling), is_kept(ODDS, telling))

    def test_what_any_keeper_would_have_to_know(self):
        # A KEEPER has to answer alike behind HISTORIES of which it heard the same: so is_kept is asked of these alone.
        for machine in SMALL:
            if not any(is_kept(machine, own) for own in tellings(letters_in(machine))):
                continue
            for telling in good_tellings(machine):
                answers = {}
                for history in SOUND[letters_in(machine)]:
                    heard, rows = [], standings_plainly("queue", history)
                    for at, deed in enumerate(history):
                        heard.append(deed if deed[0] == "in" else ("out", telling[rows[at][0] - 1]))
                    answers.setdefault(tuple(heard), set()).add(led(machine, 0, rows[-1]) in machine[1])
                self.assertEqual({len(own) for own in answers.values()}, {1})


class LeftStateTest(unittest.TestCase):

    def plainly(self, gone, came):
        """The STATE told by the least power that leads 0 to 0, or CanNot."""
        state = 0
        for times in range(1, 50):
            ahead, state = state, gone[state]
            if state == 0:
                return came[ahead], times
        return CanNot, 0

    def test_all_doings_of_three_states(self):
        three = (((1, 1, 1), (2, 0, 2), (0, 2, 2)), (0,))
        every = list(itertools.product(range(3), repeat=3))
        self.assertLessEqual(set(doings(three)), set(every))
        for gone in every:
            for came in every:
                expected, _ = self.plainly(gone, came)
                if expected is CanNot:
                    with self.assertRaises(CanNot):
                        left_state(three, gone, came)
                else:
                    self.assertEqual(left_state(three, gone, came), expected)

    def test_cannot(self):
        for gone in ((1, 1), (1, 1)):
            with self.assertRaises(CanNot):
                left_state(LAST, gone, (0, 0))
        self.assertEqual(left_state(LAST, (0, 0), (1, 1)), 1)
        self.assertEqual(left_state(NOTHING, (0,), (0,)), 0)

    def test_twelve_states(self):
        machine = ring(12, (3,))
        gone, came = doing_of(machine, (1,) * 5), doing_of(machine, (1,) * 8)
        self.assertEqual(left_state(machine, gone, came), 3)

    def test_where_what_stands_leads(self):
        for machine in MACHINES:
            small = least(machine)
            for telling in good_tellings(machine)[:2]:
                for word in words_up_to(letters_in(machine), 4):
                    came = doing_of(machine, word)
                    for many in range(len(word) + 1):
                        for gone in spread(telling, told(telling, word[:many]))[:3]:
                            self.assertEqual(left_state(machine, doing_of(machine, gone), came),
                                             led(small, 0, word[many:]))


class MadeTest(unittest.TestCase):

    def test_a_right_keeper(self):
        tried = 0
        for machine in MACHINES:
            for telling in good_tellings(machine):
                if len(doings(machine)) > 30:
                    continue
                tried += 1
                self.check_made(machine, telling)
        self.assertGreater(tried, 60)

    def check_made(self, machine, telling):
        keeper = made(machine, telling)
        self.assertEqual(keeper[:3], ("queue", 0, telling))
        self.assertIs(is_keeper(keeper), True)
        self.assertIs(is_keeper_plainly(keeper), True)
        letters = letters_in(machine)
        for history in SOUND[letters]:
            if len(history) == max(len(own) for own in SOUND[letters]):
                self.assertIs(wrong_behind(keeper, machine, history), False, (machine, telling, history))
        for history in long_histories(letters, 150, 4):
            rows = standings_plainly("queue", history)
            self.assertEqual(answers_along(keeper, history), [led(machine, 0, row) in machine[1] for row in rows])

    def test_no_history_parts_them(self):
        for machine, telling in ((TWOS, (0, 0)), (TWOS, (0, 1)), (ODDS, (0, 1)), (LONG_ODDS, (0, 1)), (NOTHING, (0, 0)),
                                 (EVERYTHING, (0, 1)), (ring(12, (0, 5)), (0,))):
            self.assertIsNone(first_parting(made(machine, telling), machine, 6))

    def test_cannot_if_it_is_not_kept(self):
        for machine, telling in ((LAST, (0, 0)), (LAST, (0, 1)), (SOME, (0, 1)), (ODDS, (0, 0)), (PIT, (0, 1))):
            with self.assertRaises(CanNot):
                made(machine, telling)

    def test_too_much_just_above_the_bound(self):
        keeper = made(ring(30), (0,))
        self.assertIs(is_keeper(keeper), True)
        history = puts((1,) * 45) + (("out",),) * 45
        self.assertEqual(answers_along(keeper, history), [many % 30 == 0 for many in range(46)]
                         + [many % 30 == 0 for many in reversed(range(45))])
        for machine, telling in ((ring(31), (0,)), (RING_31_TWICE, (0, 0)), (RING_31_TWICE, (0, 1))):
            self.assertIs(is_kept(machine, telling), True)
            with self.assertRaises(TooMuch):
                made(machine, telling)

    def test_within_the_bounds_on_machines(self):
        # All ways to turn four STATES are 24, those to turn five 120.
        for many, fits in ((4, True), (5, False)):
            machine = (tuple(((state + 1) % many, {0: 1, 1: 0}.get(state, state)) for state in range(many)), (0,))
            self.assertIs(is_kept(machine, (0, 1)), True)
            if fits:
                self.check_made(machine, (0, 1))
            else:
                with self.assertRaises(TooMuch):
                    made(machine, (0, 1))

    def test_cannot_ahead_of_too_much(self):
        line = (tuple((min(state + 1, 39),) for state in range(40)), (39,))
        self.assertEqual(len(doings(line)), 40)
        with self.assertRaises(CanNot):
            made(line, (0,))

    def test_unfit_ahead_of_both(self):
        line = (tuple((min(state + 1, 39),) for state in range(40)), (39,))
        for machine in (line, ring(31)):
            with self.assertRaises(Unfit):
                made(machine, (0, 0))

    def test_one_token_for_letters_that_do_not_do_the_same(self):
        # Letters 1 and 2 lead the STATES of the least one apart, and those of returns_machine not.
        keeper = made(TWOS, (0, 0))
        self.assertNotEqual(doing_of(TWOS, (1,)), doing_of(TWOS, (2,)))
        for word in words_up_to(2, 6):
            self.assertEqual(answers_along(keeper, puts(word))[-1], state_behind(TWOS, word) in TWOS[1])
        self.assertEqual(then(doing_of(TWOS, (1,)), doing_of(TWOS, (2,))), doing_of(TWOS, (1, 2)))


if __name__ == "__main__":
    unittest.main()
