"""Machines: gonetold/machines.py."""

import unittest

from gonetold.errors import CanNot, NoPlace, Unfit
from gonetold.machines import (are_alike, is_machine, least, leads, leads_back, letters_in, parting_word, state_behind,
                               takes, way_back, way_to)
from tests.oracles import all_machines, least_plainly, led, some_machines, words_up_to

LAST, ODDS, SOME = (((1, 0), (1, 0)), (1,)), (((1, 0), (0, 1)), (1,)), (((1, 0), (1, 1)), (1,))
WIDE = (((2, 1), (2, 1), (2, 3), (2, 1)), (2,))
NOTHING, EVERYTHING = (((0, 0),), ()), (((0, 0),), (0,))
SMALL = [machine for states, letters in ((1, 1), (1, 2), (2, 1), (2, 2), (3, 1))
         for machine in all_machines(states, letters)]
THREE = list(all_machines(3, 2))[::7]
GREAT = some_machines(12, 4, 6) + some_machines(12, 1, 6) + some_machines(7, 3, 10) + some_machines(5, 2, 40)


def first_parting(one, other, words):
    """The first of words that just one of both takes, or None."""
    for word in words:
        if (led(one, 0, word) in one[1]) != (led(other, 0, word) in other[1]):
            return word
    return None


class LeadsTest(unittest.TestCase):

    def test_where_words_lead(self):
        for machine in (LAST, ODDS, SOME, WIDE):
            for word in words_up_to(2, 5):
                for state in range(len(machine[0])):
                    self.assertEqual(leads(machine, state, word), led(machine, state, word))
                self.assertEqual(state_behind(machine, word), led(machine, 0, word))
                self.assertIs(takes(machine, word), led(machine, 0, word) in machine[1])

    def test_in_the_machine_as_it_is(self):
        self.assertEqual(leads(WIDE, 0, (2, 1, 2)), 3)
        self.assertEqual(state_behind(WIDE, (1, 2)), 3)
        self.assertEqual(leads((((0,), (0,), (1,)), ()), 2, (1,)), 1)

    def test_no_letter_leads_nowhere(self):
        for state in range(4):
            self.assertEqual(leads(WIDE, state, ()), state)
        self.assertEqual(state_behind(WIDE, ()), 0)
        self.assertIs(takes(LAST, ()), False)
        self.assertIs(takes(EVERYTHING, ()), True)

    def test_no_such_state(self):
        for state in (2, 3, -1, -2, 10 ** 30, -(10 ** 30)):
            with self.assertRaises(NoPlace) as caught:
                leads(LAST, state, (1,))
            self.assertEqual(caught.exception.place, state)

    def test_no_such_state_comes_first(self):
        with self.assertRaises(NoPlace) as caught:
            leads(LAST, 7, (1, 9))
        self.assertEqual(caught.exception.place, 7)

    def test_the_first_letter_that_is_none(self):
        for own in (lambda word: leads(LAST, 1, word), lambda word: state_behind(LAST, word),
                    lambda word: takes(LAST, word)):
            for word, place in (((3,), 3), ((1, 2, 9, 3), 9), ((2, 10 ** 30), 10 ** 30)):
                with self.assertRaises(NoPlace) as caught:
                    own(word)
                self.assertEqual(caught.exception.place, place)

    def test_letters_in(self):
        self.assertEqual([letters_in(machine) for machine in (LAST, (((0,),), ()), (((0,) * 4,), ()))], [2, 1, 4])

    def test_sixty_letters(self):
        self.assertIs(takes(ODDS, (1, 2) * 30), False)
        self.assertIs(takes(ODDS, (1, 2) * 29 + (1,)), False)
        self.assertIs(takes(ODDS, (1, 2) * 29), True)


class LeastTest(unittest.TestCase):

    def test_made_from_words_alone(self):
        for machine in SMALL + THREE:
            self.assertEqual(least(machine), least_plainly(machine), machine)

    def test_the_least_of_the_least(self):
        for machine in GREAT:
            small = least(machine)
            self.assertIs(is_machine(small), True)
            self.assertEqual(least(small), small)
            self.assertIs(are_alike(machine, small), True)
            for word in words_up_to(letters_in(machine), 4):
                self.assertEqual(takes(machine, word), takes(small, word))

    def test_no_two_states_take_the_same_words(self):
        for machine in GREAT:
            steps, ends = least(machine)
            seen_from = [machine_from((steps, ends), state) for state in range(len(steps))]
            for at, one in enumerate(seen_from):
                for other in seen_from[:at]:
                    self.assertIs(are_alike(one, other), False)

    def test_numbered_as_words_first_come_to_them(self):
        for machine in GREAT + THREE:
            steps = least(machine)[0]
            first_come = [0]
            for state in first_come:
                first_come.extend(sorted(set(steps[state]) - set(first_come), key=steps[state].index))
            self.assertEqual(first_come, list(range(len(steps))))

    def test_edges(self):
        self.assertEqual(least(NOTHING), NOTHING)
        self.assertEqual(least(EVERYTHING), EVERYTHING)
        self.assertEqual(least((((1, 2), (2, 0), (0, 1)), ())), NOTHING)
        self.assertEqual(least((((1, 2), (2, 0), (0, 1)), (0, 1, 2))), EVERYTHING)

    def test_states_that_nothing_comes_to(self):
        self.assertEqual(least((((0,), (0,)), (1,))), (((0,),), ()))
        self.assertEqual(least((((2,), (1,), (0,)), (1, 2))), (((1,), (0,)), (1,)))
        self.assertEqual(least((((0, 0), (2, 1), (1, 1)), (0,))), EVERYTHING)

    def test_states_are_numbered_anew(self):
        self.assertEqual(least((((2,), (0,), (1,)), (1,))), (((1,), (2,), (0,)), (2,)))
        self.assertEqual(least((((2, 1), (2, 1), (2, 1)), (2,))), LAST)

    def test_words_are_told_apart_late(self):
        ring = (tuple(((state + 1) % 12,) for state in range(12)), (11,))
        self.assertEqual(least(ring), ring)
        self.assertEqual(least((ring[0], (3, 7, 11))), (((1,), (2,), (3,), (0,)), (3,)))

    def test_more_states_than_the_bound(self):
        ring = (tuple(((state + 1) % 300, state) for state in range(300)), (299,))
        self.assertEqual(least(ring), ring)
        self.assertEqual(least(least(ring)), ring)


def machine_from(machine, state):
    """machine with state for its state 0."""
    swap = {0: state, state: 0}
    steps, ends = machine
    order = [swap.get(own, own) for own in range(len(steps))]
    rows = tuple(tuple(swap.get(target, target) for target in steps[own]) for own in order)
    return rows, tuple(sorted(swap.get(own, own) for own in ends))


class AlikeTest(unittest.TestCase):

    def test_pairs_of_small_ones(self):
        for one in SMALL[::3]:
            for other in SMALL[::5]:
                self.check_pair(one, other)

    def test_pairs_of_greater_ones(self):
        for one in THREE[::29]:
            for other in THREE[::31]:
                self.check_pair(one, other)

    def check_pair(self, one, other):
        if letters_in(one) != letters_in(other):
            for own in (are_alike, parting_word):
                with self.assertRaises(Unfit):
                    own(one, other)
            return
        words = words_up_to(letters_in(one), len(one[0]) + len(other[0]) - 2)
        parting = first_parting(one, other, words)
        self.assertIs(are_alike(one, other), parting is None, (one, other))
        self.assertIs(least(one) == least(other), parting is None)
        if parting is None:
            with self.assertRaises(CanNot):
                parting_word(one, other)
        else:
            self.assertEqual(parting_word(one, other), parting)

    def test_the_longest_parting_word(self):
        one = (tuple(((state + 1) % 12,) for state in range(12)), (11,))
        other = (tuple((min(state + 1, 11),) for state in range(12)), (11,))
        self.assertEqual(parting_word(one, other), (1,) * 12)
        self.assertEqual(parting_word(other, one), (1,) * 12)
        three, five = (((1,), (2,), (0,)), (2,)), (((1,), (2,), (3,), (4,), (3,)), (2,))
        self.assertEqual(parting_word(three, five), (1,) * 5)

    def test_alike_ones(self):
        self.assertIs(are_alike(LAST, LAST), True)
        self.assertIs(are_alike(WIDE, LAST), True)
        self.assertIs(are_alike(LAST, ODDS), False)
        self.assertIs(are_alike(NOTHING, EVERYTHING), False)
        for one, other in ((LAST, LAST), (WIDE, LAST), (LAST, WIDE)):
            with self.assertRaises(CanNot):
                parting_word(one, other)
        self.assertEqual(parting_word(NOTHING, EVERYTHING), ())

    def test_the_first_letter_is_less(self):
        one, other = (((1, 1), (1, 1)), (1,)), (((1, 1), (1, 1)), ())
        self.assertEqual(parting_word(one, other), (1,))
        self.assertEqual(parting_word(LAST, EVERYTHING), ())
        self.assertEqual(parting_word(SOME, LAST), (1, 2))


class WaysTest(unittest.TestCase):

    def test_ways_in_the_least_machine(self):
        for machine in SMALL + THREE[::5] + some_machines(5, 2, 40):
            small = least(machine)
            words = words_up_to(letters_in(machine), len(small[0]) - 1)
            back = []
            for state in range(len(small[0])):
                self.assertEqual(way_to(machine, state), next(word for word in words if led(small, 0, word) == state))
                back.append(next((word for word in words if led(small, state, word) == 0), None))
                self.check_way_back(machine, state, back[-1])
            self.assertIs(leads_back(machine), None not in back)

    def check_way_back(self, machine, state, word):
        if word is None:
            with self.assertRaises(CanNot):
                way_back(machine, state)
        else:
            self.assertEqual(way_back(machine, state), word)

    def test_the_state_0(self):
        for machine in SMALL + GREAT:
            self.assertEqual(way_to(machine, 0), ())
            self.assertEqual(way_back(machine, 0), ())

    def test_no_such_state(self):
        for machine, many in ((LAST, 2), (WIDE, 2), (NOTHING, 1)):
            for state in (many, many + 1, -1, 10 ** 30):
                for own in (way_to, way_back):
                    with self.assertRaises(NoPlace) as caught:
                        own(machine, state)
                    self.assertEqual(caught.exception.place, state)

    def test_no_such_state_is_not_no_way_back(self):
        with self.assertRaises(NoPlace):
            way_back(SOME, 2)
        with self.assertRaises(CanNot):
            way_back(SOME, 1)

    def test_states_from_which_none_leads_back(self):
        self.assertIs(leads_back(SOME), False)
        self.assertIs(leads_back((((1,), (2,), (2,)), (1,))), False)
        # As it is, nothing leads this one back to 0: but its STATES 0 and 2 are one in the least.
        self.assertIs(leads_back((((1,), (2,), (1,)), (1,))), True)
        self.assertIs(leads_back((((1,), (1,)), ())), True)
        self.assertIs(leads_back((((1, 0), (1, 0), (2, 2)), (1,))), True)
        for machine in (LAST, ODDS, NOTHING, EVERYTHING, WIDE):
            self.assertIs(leads_back(machine), True)

    def test_one_state_too_far(self):
        line = (((1, 0), (2, 0), (3, 1), (3, 3)), (3,))
        self.assertEqual([way_to(line, state) for state in range(4)], [(), (1,), (1, 1), (1, 1, 1)])
        self.assertEqual([way_back(line, state) for state in range(3)], [(), (2,), (2, 2)])
        self.assertIs(leads_back(line), False)
        with self.assertRaises(CanNot):
            way_back(line, 3)


if __name__ == "__main__":
    unittest.main()
