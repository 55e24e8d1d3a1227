"""Doings: gonetold/doings.py."""

import itertools
import unittest

from gonetold.doings import (doing_of, doings, idempotent_power, idempotents, image_of, images, is_idempotent, lap_of,
                             one_of, rank_of, then, word_for)
from gonetold.errors import CanNot, NoPlace, TooMuch
from gonetold.machines import least, letters_in
from tests.oracles import (all_machines, doings_plainly, least_plainly, led, ring, some_machines, turning_machines,
                           words_up_to)

LAST, ODDS = (((1, 0), (1, 0)), (1,)), (((1, 0), (0, 1)), (1,))
WIDE = (((2, 1), (2, 1), (2, 3), (2, 1)), (2,))
NOTHING, EVERYTHING = (((0, 0),), ()), (((1, 1), (0, 0)), (0, 1))
MACHINES = [machine for states, letters in ((1, 1), (1, 2), (2, 1), (2, 2), (3, 1))
            for machine in all_machines(states, letters)] + list(all_machines(3, 2))[::13] + some_machines(4, 2, 30)
# All that can be done to so many states is done by words of letters that turn them, change two of them, put two together.
FOUR, FIVE = [(tuple(((state + 1) % many, {0: 1, 1: 0}.get(state, state), 0 if state == 1 else state)
                     for state in range(many)), (0,)) for many in (4, 5)]
RING_500, RING_501 = ring(500), ring(501)


def all_of(many):
    """All tuples of places in themselves of so many."""
    return list(itertools.product(range(many), repeat=many))


def power(doing, many):
    """A doing so many times."""
    made = tuple(range(len(doing)))
    for _ in range(many):
        made = tuple(doing[state] for state in made)
    return made


class DoingOfTest(unittest.TestCase):

    def test_where_the_states_of_the_least_machine_are_led(self):
        for machine in MACHINES[::5] + [LAST, ODDS, WIDE, FOUR]:
            small = least_plainly(machine)
            for word in words_up_to(letters_in(machine), 4):
                expected = tuple(led(small, state, word) for state in range(len(small[0])))
                self.assertEqual(doing_of(machine, word), expected)

    def test_one(self):
        for machine in MACHINES + [WIDE]:
            self.assertEqual(one_of(machine), doing_of(machine, ()))
            self.assertEqual(one_of(machine), tuple(range(len(least_plainly(machine)[0]))))
        self.assertEqual(one_of(WIDE), (0, 1))

    def test_then_is_the_doing_of_both_words(self):
        for machine in (LAST, ODDS, WIDE, FOUR) + tuple(MACHINES[::29]):
            words = words_up_to(letters_in(machine), 3)
            for one, other in itertools.product(words, words):
                self.assertEqual(then(doing_of(machine, one), doing_of(machine, other)),
                                 doing_of(machine, one + other))

    def test_then_with_one(self):
        for doing in all_of(3):
            self.assertEqual(then(doing, (0, 1, 2)), doing)
            self.assertEqual(then((0, 1, 2), doing), doing)
        self.assertEqual(then((0,), (0,)), (0,))

    def test_the_first_letter_that_is_none(self):
        for machine in (LAST, WIDE, NOTHING):
            for word, place in (((3,), 3), ((1, 2, 9, 3), 9), ((2, 10 ** 30), 10 ** 30)):
                with self.assertRaises(NoPlace) as caught:
                    doing_of(machine, word)
                self.assertEqual(caught.exception.place, place)


class DoingsTest(unittest.TestCase):

    def test_made_from_words_alone(self):
        for machine in MACHINES:
            plainly = doings_plainly(least_plainly(machine))
            self.assertEqual(doings(machine), list(plainly), machine)
            for doing, word in plainly.items():
                self.assertEqual(word_for(machine, doing), word)

    def test_no_other_doing_has_a_word(self):
        for machine in MACHINES[::3]:
            found = doings(machine)
            for doing in all_of(len(least(machine)[0])):
                if doing not in found:
                    with self.assertRaises(CanNot):
                        word_for(machine, doing)

    def test_idempotents_of_words_with_a_letter(self):
        for machine in MACHINES + turning_machines(4, 2, 10):
            found = doings(machine)
            letters = [doing_of(machine, (letter,)) for letter in range(1, letters_in(machine) + 1)]
            longer = [then(doing, letter) for doing in found for letter in letters]
            expected = [doing for doing in found if doing in longer and power(doing, 2) == doing]
            self.assertEqual(idempotents(machine), expected, machine)

    def test_one_is_there_only_if_a_word_with_a_letter_does_it(self):
        self.assertNotIn((0, 1), idempotents(LAST))
        self.assertEqual(idempotents(ODDS), [(0, 1)])
        self.assertEqual(idempotents(NOTHING), [(0,)])
        self.assertEqual(idempotents((((1,), (1,)), (1,))), [(1, 1)])

    def test_one_state(self):
        for machine in (NOTHING, EVERYTHING):
            self.assertEqual(doings(machine), [(0,)])
            self.assertEqual(word_for(machine, (0,)), ())
            self.assertEqual(images(machine), ((0,),))

    def test_one_letter(self):
        tail = (((1,), (2,), (3,), (2,)), (3,))
        self.assertEqual(doings(tail), [(0, 1, 2, 3), (1, 2, 3, 2), (2, 3, 2, 3), (3, 2, 3, 2)])
        self.assertEqual([word_for(tail, doing) for doing in doings(tail)], [(), (1,), (1, 1), (1, 1, 1)])
        self.assertEqual(idempotents(tail), [(2, 3, 2, 3)])

    def test_of_the_least_machine(self):
        self.assertEqual(doings(WIDE), [(0, 1), (1, 1), (0, 0)])
        self.assertEqual(idempotents(WIDE), [(1, 1), (0, 0)])
        self.assertEqual(images(WIDE), ((0,), (0, 1), (1,)))
        with self.assertRaises(CanNot):
            word_for(WIDE, (2, 2, 2, 2))

    def test_at_most_as_many_as_there_are_tuples(self):
        self.assertEqual(sorted(doings(FOUR)), all_of(4))
        for machine in MACHINES:
            self.assertLessEqual(len(doings(machine)), len(all_of(len(least(machine)[0]))))

    def test_the_rank_of_both_is_at_most_that_of_each(self):
        for one, other in itertools.product(all_of(3), all_of(3)):
            self.assertLessEqual(rank_of(then(one, other)), min(rank_of(one), rank_of(other)))

    def test_too_much_just_above_the_bound(self):
        found = doings(RING_500)
        self.assertEqual(len(found), 500)
        self.assertEqual(word_for(RING_500, found[499]), (1,) * 499)
        self.assertEqual(idempotents(RING_500), [found[0]])
        for machine in (RING_501, FIVE):
            for call in (doings, idempotents, lambda own: word_for(own, one_of(own)),
                         lambda own: word_for(own, (0,) * 7)):
                with self.assertRaises(TooMuch):
                    call(machine)

    def test_cannot_at_the_bound(self):
        with self.assertRaises(CanNot):
            word_for(RING_500, (0,) * 500)

    def test_what_is_asked_for_with_more_doings(self):
        self.assertEqual(len(images(FIVE)), 2 ** 5 - 1)
        self.assertEqual(images(RING_501), (tuple(range(501)),))
        self.assertEqual(doing_of(FIVE, (1, 2, 3)), (0, 2, 3, 4, 0))
        self.assertEqual(one_of(FIVE), (0, 1, 2, 3, 4))


class ImagesTest(unittest.TestCase):

    def test_images_of_all_doings(self):
        for machine in MACHINES:
            plainly = sorted({tuple(sorted(set(doing))) for doing in doings_plainly(least_plainly(machine))})
            self.assertEqual(images(machine), tuple(plainly))

    def test_image_and_rank(self):
        for doing in all_of(4):
            self.assertEqual(image_of(doing), tuple(state for state in range(4) if state in doing))
            self.assertEqual(rank_of(doing), len([state for state in range(4) if state in doing]))
        self.assertEqual((image_of((0,)), rank_of((0,))), ((0,), 1))

    def test_twelve_states(self):
        machine = some_machines(12, 4, 1)[0]
        small = least(machine)
        met, waiting = set(), [frozenset(range(len(small[0])))]
        while waiting:
            image = waiting.pop()
            if image not in met:
                met.add(image)
                waiting.extend(frozenset(small[0][state][at] for state in image) for at in range(4))
        self.assertEqual(images(machine), tuple(sorted(tuple(sorted(image)) for image in met)))


class PowersTest(unittest.TestCase):

    def test_is_idempotent(self):
        for doing in all_of(4):
            self.assertIs(is_idempotent(doing), power(doing, 2) == doing)

    def test_laps_as_small_as_can_be(self):
        for many in (1, 2, 3, 4):
            for doing in all_of(many):
                powers = [power(doing, times) for times in range(20)]
                plainly = min((n, m) for n in range(1, 8) for m in range(1, 12) if powers[n] == powers[n + m])
                self.assertEqual(lap_of(doing), plainly, doing)

    def test_just_one_power_is_idempotent(self):
        for many in (1, 2, 3, 4):
            for doing in all_of(many):
                found = {power(doing, times) for times in range(1, 20)}
                found = [own for own in found if power(own, 2) == own]
                self.assertEqual([idempotent_power(doing)], found, doing)

    def test_twelve_states(self):
        # Rounds of 5, 4 and 3 STATES; and a way of 8 into a round of 4.
        self.assertEqual(lap_of((1, 2, 3, 4, 0, 6, 7, 8, 5, 10, 11, 9)), (1, 60))
        self.assertEqual(idempotent_power((1, 2, 3, 4, 0, 6, 7, 8, 5, 10, 11, 9)), tuple(range(12)))
        self.assertEqual(lap_of((1, 2, 3, 4, 5, 6, 7, 8, 9, 10, 11, 8)), (8, 4))
        self.assertEqual(idempotent_power((1, 2, 3, 4, 5, 6, 7, 8, 9, 10, 11, 8)),
                         (8, 9, 10, 11, 8, 9, 10, 11, 8, 9, 10, 11))


if __name__ == "__main__":
    unittest.main()
