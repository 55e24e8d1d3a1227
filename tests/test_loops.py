"""Loops: gonetold/loops.py."""

import unittest

from gonetold.errors import CanNot, NoPlace, TooMuch
from gonetold.loops import (breaker, first_returns, is_breaker, keeps_tails, lost_word, returns, returns_machine)
from gonetold.machines import leads_back, least, letters_in, takes
from tests.oracles import (PIECES, all_machines, changed, least_plainly, led, levelled_machines, nested, ring,
                           some_machines, turning_machines, words_up_to)
from tests.papers import is_breaker_plainly, leads_home

LAST, ODDS, SOME = (((1, 0), (1, 0)), (1,)), (((1, 0), (0, 1)), (1,)), (((1, 0), (1, 1)), (1,))
TWOS = (((1, 2), (0, 0), (0, 0)), (1,))
# The same as ODDS, with STATES too many, of which none leads back to STATE 0.
LONG_ODDS = (((1, 2), (2, 1), (3, 2), (2, 3)), (1, 3))
NOTHING, EVERYTHING = (((0, 0),), ()), (((1, 1), (0, 0)), (0, 1))
MACHINES = [machine for states, letters in ((1, 1), (1, 2), (2, 1), (2, 2), (3, 1))
            for machine in all_machines(states, letters)] + list(all_machines(3, 2))[::19] + turning_machines(3, 2, 10)
GREATER = levelled_machines(2, 12) + turning_machines(4, 2, 12) + some_machines(5, 2, 12) + [LAST, ODDS, SOME, TWOS]


def error_of(own, *arguments):
    """What a call returns; the class of the error, if it raises one."""
    try:
        return own(*arguments)
    except (CanNot, TooMuch) as error:
        return type(error)


def first(things, otherwise=CanNot):
    """The first of things."""
    return next(iter(things), otherwise)


class ReturnsTest(unittest.TestCase):

    def test_words_that_lead_0_to_0(self):
        for machine in MACHINES + GREATER + [LONG_ODDS]:
            small = least_plainly(machine) if len(machine[0]) < 5 else least(machine)
            back = returns_machine(machine)
            for word in words_up_to(letters_in(machine), 5):
                expected = led(small, 0, word) == 0
                self.assertIs(returns(machine, word), expected)
                self.assertIs(takes(back, word), expected)
            self.assertEqual(least(back), back)

    def test_the_word_without_letters(self):
        for machine in MACHINES:
            self.assertIs(returns(machine, ()), True)

    def test_in_the_least_machine(self):
        self.assertIs(returns(LONG_ODDS, (1, 1)), True)
        self.assertIs(returns((((1,), (1,)), (0, 1)), (1,)), True)
        self.assertEqual(returns_machine(LONG_ODDS), (((1, 0), (0, 1)), (0,)))

    def test_one_state(self):
        for machine in (NOTHING, EVERYTHING):
            self.assertEqual(returns_machine(machine), (((0, 0),), (0,)))
            self.assertIs(returns(machine, (2, 1, 2)), True)

    def test_the_first_letter_that_is_none(self):
        for machine in (LAST, LONG_ODDS, NOTHING):
            for word, place in (((3,), 3), ((1, 2, 9, 3), 9), ((2, 10 ** 30), 10 ** 30)):
                with self.assertRaises(NoPlace) as caught:
                    returns(machine, word)
                self.assertEqual(caught.exception.place, place)


class LostWordTest(unittest.TestCase):

    def test_the_first_one(self):
        for machine in MACHINES:
            small = least_plainly(machine)
            lost = [word for word in words_up_to(letters_in(machine), len(small[0]) - 1)
                    if not leads_home(small, led(small, 0, word))]
            self.assertEqual(error_of(lost_word, machine), first(lost), machine)
            self.assertIs(leads_back(machine), lost == [])

    def test_behind_a_longer_way(self):
        self.assertEqual(lost_word((((1, 0), (2, 0), (3, 1), (3, 3)), (3,))), (1, 1, 1))
        self.assertEqual(lost_word(SOME), (1,))
        for machine in (LAST, ODDS, TWOS, LONG_ODDS, NOTHING, EVERYTHING):
            with self.assertRaises(CanNot):
                lost_word(machine)


class BreakerTest(unittest.TestCase):

    def test_the_first_one(self):
        for machine in MACHINES:
            small = least_plainly(machine)
            many = len(small[0])
            letters = letters_in(machine)
            # If a word leads two STATES to 0, one of fewer letters than there are pairs does.
            found = ((ahead, tail) for ahead in words_up_to(letters, many - 1) if led(small, 0, ahead) != 0
                     for tail in words_up_to(letters, many * many - 1)
                     if led(small, 0, tail) == 0 and led(small, led(small, 0, ahead), tail) == 0)
            expected = first(found)
            self.assertEqual(error_of(breaker, machine), expected, machine)
            home = all(leads_home(small, state) for state in range(many))
            self.assertIs(keeps_tails(machine), home and expected is CanNot)

    def test_a_breaker_in_a_machine_that_leads_not_back(self):
        machine = (((1, 2), (0, 0), (2, 2)), (1,))
        self.assertIs(keeps_tails(machine), False)
        self.assertEqual(error_of(breaker, machine), CanNot)
        self.assertIs(keeps_tails(LAST), False)
        self.assertEqual(breaker(LAST), ((1,), (2,)))

    def test_of_the_least_machine(self):
        for machine in (LONG_ODDS, NOTHING, EVERYTHING):
            self.assertIs(keeps_tails(machine), True)
            with self.assertRaises(CanNot):
                breaker(machine)
        self.assertEqual(breaker((((2, 1), (2, 1), (2, 3), (2, 1)), (2,))), ((1,), (2,)))

    def test_twelve_states(self):
        machine = (tuple((min(state + 1, 11), max(state - 1, 0)) for state in range(12)), (11,))
        self.assertEqual(breaker(machine), ((1,), (2,)))
        deep = (tuple((min(state + 1, 11), 0 if state in (0, 11) else state - 1) for state in range(12)), (11,))
        self.assertIs(is_breaker(deep, breaker(deep)), True)
        self.assertIs(keeps_tails(ring(12, (3,))), True)

    def test_things_near_breakers(self):
        for machine in (LAST, SOME, (((1, 0, 0), (1, 0, 1)), (0,)), LONG_ODDS):
            small = least_plainly(machine)
            told = 0
            for value in (((1,), (2,)), ((1, 1), (2, 2, 1, 2)), ((2, 1), (2,)), ((), ()), ((1,), ())):
                for thing in (value, *changed(value)):
                    expected = is_breaker_plainly(small, thing)
                    self.assertIs(is_breaker(machine, thing), expected, repr(thing))
                    told += expected
            self.assertEqual(told > 0, error_of(breaker, machine) is not CanNot)

    def test_all_short_pairs(self):
        for machine in MACHINES[::17] + [LAST, ODDS, SOME]:
            small = least_plainly(machine)
            words = words_up_to(letters_in(machine), 3)
            for ahead in words:
                for tail in words:
                    self.assertIs(is_breaker(machine, (ahead, tail)), is_breaker_plainly(small, (ahead, tail)))

    def test_other_things(self):
        for thing in PIECES + tuple(nested(levels, kind) for levels in (99, 100) for kind in (tuple, list)):
            self.assertIs(is_breaker(LAST, thing), False)
        for thing in (((1,), (2, 3)), ((1,), (2, 3, 2)), ((4,), (2,)), ((1,), (2,), ()), ((1,),), [(1,), (2,)],
                      ([1], (2,)), ((1,), [2]), ((True,), (2,)), ((1,), (2, 0)), ("1", "2"), {}, ((1.0,), (2,))):
            self.assertIs(is_breaker(LAST, thing), False, repr(thing))
        self.assertIs(is_breaker(LAST, ((1,) * 100000, (2,) * 100000)), True)
        self.assertIs(is_breaker(LAST, ((1,) * 100000, (2,) * 100000 + (1,))), False)
        self.assertIs(is_breaker(LAST, ((1,), (10 ** 5000, 2))), False)


class FirstReturnsTest(unittest.TestCase):

    def plainly(self, machine, longest):
        small = least(machine)
        words = [word for word in words_up_to(letters_in(machine), longest) if word and led(small, 0, word) == 0]
        return [word for word in words if not any(led(small, 0, word[:at]) == 0 for at in range(1, len(word)))]

    def test_in_order(self):
        for machine in MACHINES + GREATER:
            for longest in range(7):
                self.assertEqual(first_returns(machine, longest), self.plainly(machine, longest), machine)

    def test_no_letter(self):
        for machine in MACHINES:
            self.assertEqual(first_returns(machine, 0), [])

    def test_each_word_that_returns_is_made_of_them_in_just_one_way(self):
        for machine in MACHINES[::3] + GREATER:
            firsts = first_returns(machine, 6)
            ways = {(): 1}
            for word in words_up_to(letters_in(machine), 6)[1:]:
                ways[word] = sum(ways[word[len(own):]] for own in firsts if word[:len(own)] == own)
                self.assertEqual(ways[word], 1 if returns(machine, word) else 0)

    def test_none_begins_and_if_tails_are_kept_none_ends_another_one(self):
        ended = 0
        for machine in MACHINES + GREATER:
            firsts = first_returns(machine, 6)
            for one in firsts:
                others = [other for other in firsts if other != one]
                self.assertEqual([other for other in others if other[:len(one)] == one], [])
                ends = [other for other in others if other[len(other) - len(one):] == one]
                ended += len(ends)
                if keeps_tails(machine):
                    self.assertEqual(ends, [])
        self.assertGreater(ended, 0)

    def test_if_tails_are_kept_each_word_has_a_power_that_returns(self):
        for machine in MACHINES + GREATER:
            small = least(machine)
            powers = [any(led(small, 0, word * times) == 0 for times in range(1, len(small[0]) + 1))
                      for word in words_up_to(letters_in(machine), 6)]
            if keeps_tails(machine):
                self.assertEqual(set(powers), {True})
        for machine in MACHINES:
            small = least_plainly(machine)
            if not keeps_tails(machine):
                self.assertIn(False, [any(led(small, 0, word * times) == 0 for times in range(1, 4))
                                      for word in words_up_to(letters_in(machine), 6)], machine)

    def test_too_much_just_above_the_bound(self):
        # Of ODDS there are 2, and 1 2 .. 2 1 of each length from 2 on.
        self.assertEqual(len(first_returns(ODDS, 1000)), 1000)
        self.assertEqual(first_returns(ODDS, 1000)[-1], (1,) + (2,) * 998 + (1,))
        for longest in (1001, 1002, 5000):
            with self.assertRaises(TooMuch):
                first_returns(ODDS, longest)

    def test_too_much_of_the_last_length_alone(self):
        # In a round of 5 STATES there are 4 ^ 5 words of 5 letters, of which none returns sooner; in one of 4, 256.
        five = (tuple(((state + 1) % 5,) * 4 for state in range(5)), (0,))
        four = (tuple(((state + 1) % 4,) * 4 for state in range(4)), (0,))
        self.assertEqual(first_returns(five, 4), [])
        self.assertEqual(len(first_returns(four, 60)), 256)
        for longest in (5, 6, 60):
            with self.assertRaises(TooMuch):
                first_returns(five, longest)

    def test_words_that_never_return_do_not_count(self):
        # From STATE 2 nothing leads back, and many words go there.
        machine = (((1, 2, 2, 2), (0, 2, 2, 2), (2, 2, 2, 2)), (1,))
        self.assertEqual(first_returns(machine, 60), [(1, 1)])
        self.assertEqual(first_returns((((1, 1), (1, 1)), (1,)), 60), [])

    def test_words_that_return_too_late_do_not_count(self):
        # Whatever stands, 11 letters 1 behind each other lead on from STATE to STATE, and the twelfth one back.
        machine = (tuple(((state + 1) % 12, state) for state in range(12)), (3,))
        self.assertEqual(first_returns(machine, 12), [(2,), (1,) * 12])
        self.assertEqual(len(first_returns(machine, 14)), 1 + 1 + 11 + 66)


if __name__ == "__main__":
    unittest.main()
