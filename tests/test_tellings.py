"""Tellings: gonetold/tellings.py."""

import itertools
import unittest

from gonetold.errors import CanNot, NoPlace, Unfit
from gonetold.kept import is_kept
from gonetold.loops import returns
from gonetold.machines import letters_in
from gonetold.tellings import (coarsest, good_tellings, is_finer, is_telling, joined, met, spread, stand_in, tellings,
                               told)
from tests.oracles import (PIECES, all_machines, changed, least_plainly, levelled_machines, nested, some_machines,
                           turning_machines, words_up_to)
from tests.papers import is_reason_plainly, is_telling_plainly

LAST, ODDS, SOME = (((1, 0), (1, 0)), (1,)), (((1, 0), (0, 1)), (1,)), (((1, 0), (1, 1)), (1,))
TWOS = (((1, 2), (0, 0), (0, 0)), (1,))
NO_TELLINGS = ((), (1,), (0, 2), (1, 0), (0, 1, 3), (0, -1), (0, 0, 0, 2))


def all_tellings(many):
    """All tellings of so many letters, picked out of all tuples of so many numbers."""
    return [own for own in itertools.product(range(many), repeat=many) if is_telling_plainly(own)]


def finer_plainly(one, other):
    """Whether letters with one TOKEN in one have one TOKEN in other, too."""
    places = range(len(one))
    return all(other[low] == other[high] for low in places for high in places if one[low] == one[high])


class IsTellingTest(unittest.TestCase):

    def test_all_short_tuples(self):
        for many in range(5):
            for thing in itertools.product(range(-1, 5), repeat=many):
                self.assertIs(is_telling(thing), is_telling_plainly(thing), thing)

    def test_things_near_tellings(self):
        for value in ((0,), (0, 0), (0, 1), (0, 1, 0, 2), (0, 0, 1, 1), (0, 1, 2, 3, 4, 5, 3)):
            self.assertIs(is_telling(value), True)
            for thing in changed(value):
                self.assertIs(is_telling(thing), is_telling_plainly(thing), repr(thing))

    def test_other_things(self):
        for thing in PIECES + tuple(nested(levels, kind) for levels in (99, 100) for kind in (tuple, list)):
            self.assertIs(is_telling(thing), thing == (0,) and type(thing) is tuple, repr(thing))
        for thing in (False, True, (False,), (0, True), (0, "1"), "0", "01", [0], [0, 1], (0, [1]), (0, None), ((0,),),
                      (0, nested(99, tuple))):
            self.assertIs(is_telling(thing), False, repr(thing))
        self.assertIs(is_telling((0,) * 100000), True)
        self.assertIs(is_telling(tuple(range(100000))), True)
        self.assertIs(is_telling(tuple(range(100000)) + (100001,)), False)
        self.assertIs(is_telling((0, 10 ** 5000)), False)


class TellingsTest(unittest.TestCase):

    def test_all_of_them_ascending(self):
        for many in range(1, 6):
            self.assertEqual(tellings(many), sorted(all_tellings(many)))

    def test_one_and_six_letters(self):
        self.assertEqual(tellings(1), [(0,)])
        self.assertEqual(tellings(2), [(0, 0), (0, 1)])
        six = tellings(6)
        self.assertEqual((len(six), six[0], six[-1]), (203, (0,) * 6, (0, 1, 2, 3, 4, 5)))
        self.assertEqual(six, sorted(set(six)))
        self.assertEqual([own for own in six if not is_telling_plainly(own)], [])


class ToldTest(unittest.TestCase):

    def test_tokens_and_stand_ins(self):
        for telling in tellings(3) + [(0,), (0, 1, 0, 2)]:
            for word in words_up_to(len(telling), 4):
                expected = tuple(telling[letter - 1] for letter in word)
                self.assertEqual(told(telling, word), expected)
                stand = stand_in(telling, word)
                self.assertEqual(stand, tuple(min(other for other in range(1, len(telling) + 1)
                                                  if telling[other - 1] == token) for token in expected))
                self.assertEqual(told(telling, stand), expected)

    def test_no_letter(self):
        for telling in tellings(4):
            self.assertEqual(told(telling, ()), ())
            self.assertEqual(stand_in(telling, ()), ())
            self.assertEqual(spread(telling, ()), [()])

    def test_spread(self):
        for telling in tellings(3) + [(0,), (0, 0), (0, 1, 0, 2)]:
            for many in range(5):
                words = {}
                for word in itertools.product(range(1, len(telling) + 1), repeat=many):
                    words.setdefault(tuple(telling[letter - 1] for letter in word), []).append(word)
                for tokens, expected in words.items():
                    self.assertEqual(spread(telling, tokens), expected)

    def test_six_tokens(self):
        found = spread((0, 0, 0, 0), (0,) * 6)
        self.assertEqual(len(found), 4 ** 6)
        self.assertEqual(found, sorted(set(found)))
        self.assertEqual(spread((0, 1, 2, 3), (3, 0, 1, 2, 3, 0)), [(4, 1, 2, 3, 4, 1)])
        self.assertEqual(len(spread((0, 1, 0, 2), (0, 1, 0, 2, 0, 0))), 16)

    def test_the_first_letter_that_is_none(self):
        for own in (told, stand_in):
            for word, place in (((4,), 4), ((1, 3, 9, 4), 9), ((2, 10 ** 30), 10 ** 30)):
                with self.assertRaises(NoPlace) as caught:
                    own((0, 1, 0), word)
                self.assertEqual(caught.exception.place, place)

    def test_the_first_token_that_is_none(self):
        for tokens, place in (((2,), 2), ((0, 1, 3, 2), 3), ((1, -1, 5), -1), ((0, 10 ** 30), 10 ** 30)):
            with self.assertRaises(NoPlace) as caught:
                spread((0, 1, 0), tokens)
            self.assertEqual(caught.exception.place, place)

    def test_unfit_first_of_all(self):
        for telling in NO_TELLINGS:
            for own in (told, stand_in, spread):
                with self.assertRaises(Unfit):
                    own(telling, (9,))


class FinerTest(unittest.TestCase):

    def test_is_finer(self):
        for many in range(1, 6):
            for one, other in itertools.product(tellings(many), repeat=2):
                self.assertIs(is_finer(one, other), finer_plainly(one, other))

    def test_edges(self):
        for many in range(1, 7):
            same, unlike = (0,) * many, tuple(range(many))
            for own in tellings(many):
                self.assertIs(is_finer(own, own), True)
                self.assertIs(is_finer(unlike, own), True)
                self.assertIs(is_finer(own, same), True)
                self.assertEqual(joined(own, unlike), own)
                self.assertEqual(met(own, unlike), unlike)
                self.assertEqual(joined(own, same), same)
                self.assertEqual(met(own, same), own)

    def test_joined_and_met(self):
        for many in range(1, 6):
            every = tellings(many)
            for one, other in itertools.product(every, repeat=2):
                above = [own for own in every if finer_plainly(one, own) and finer_plainly(other, own)]
                below = [own for own in every if finer_plainly(own, one) and finer_plainly(own, other)]
                self.assertEqual([joined(one, other)],
                                 [own for own in above if all(finer_plainly(own, far) for far in above)])
                self.assertEqual([met(one, other)],
                                 [own for own in below if all(finer_plainly(far, own) for far in below)])

    def test_the_guarantees(self):
        for one, other in itertools.product(tellings(4), repeat=2):
            self.assertEqual(joined(one, other), joined(other, one))
            self.assertEqual(met(one, other), met(other, one))
            self.assertEqual(joined(one, met(one, other)), one)
            self.assertEqual(met(one, joined(one, other)), one)
            for third in tellings(4):
                self.assertEqual(joined(joined(one, other), third), joined(one, joined(other, third)))
                self.assertEqual(met(met(one, other), third), met(one, met(other, third)))

    def test_far_letters_put_together(self):
        one, other = (0, 0, 1, 1, 2, 2), (0, 1, 1, 2, 2, 3)
        self.assertEqual(joined(one, other), (0, 0, 0, 0, 0, 0))
        self.assertEqual(met(one, other), (0, 1, 2, 3, 4, 5))
        self.assertEqual(joined((0, 1, 2, 3, 4, 0), (0, 1, 2, 1, 4, 5)[:4] + (3, 4)), (0, 1, 2, 1, 3, 0))

    def test_unfit(self):
        for own in (is_finer, joined, met):
            for one, other in (((0, 0), (0, 0, 0)), ((0, 1, 2), (0, 1)), ((0,), (0, 1))):
                with self.assertRaises(Unfit):
                    own(one, other)
            for wrong in NO_TELLINGS:
                for one, other in ((wrong, wrong), (wrong, (0,) * len(wrong)), ((0,) * len(wrong), wrong)):
                    with self.assertRaises(Unfit):
                        own(one, other)


class GoodTellingsTest(unittest.TestCase):

    MACHINES = ([machine for states, letters in ((1, 1), (1, 2), (2, 1), (2, 2), (3, 1))
                 for machine in all_machines(states, letters)] + list(all_machines(3, 2))[::23]
                + turning_machines(3, 3, 12) + levelled_machines(3, 12) + some_machines(3, 3, 6))

    def has_reason(self, machine, telling):
        """Whether there is a reason, looked for among those of short words."""
        small = least_plainly(machine)
        words = words_up_to(len(telling), len(small[0]) - 1)
        longer = words_up_to(len(telling), {1: 0, 2: 2, 3: 5}.get(len(small[0]), 4))
        letters = range(1, len(telling) + 1)
        return (any(is_reason_plainly(small, telling, ("lost", word)) for word in words)
                or any(is_reason_plainly(small, telling, ("tail", ahead, tail)) for ahead in words for tail in longer)
                or any(is_reason_plainly(small, telling, ("unlike", ahead, one, other, tail))
                       for one in letters for other in letters for ahead in words for tail in words))

    def test_those_without_a_reason(self):
        for machine in self.MACHINES:
            if len(machine[0]) > 4:
                continue
            good = [own for own in tellings(letters_in(machine)) if not self.has_reason(machine, own)]
            self.assertEqual(good_tellings(machine), good, machine)

    def test_those_that_are_finer_than_the_coarsest(self):
        kept = 0
        for machine in self.MACHINES:
            good = good_tellings(machine)
            every = tellings(letters_in(machine))
            self.assertEqual(good, [own for own in every if is_kept(machine, own)])
            if good:
                kept += 1
                self.assertEqual(good, [own for own in every if finer_plainly(own, coarsest(machine))])
                self.assertIn(coarsest(machine), good)
                for one, other in itertools.product(good, repeat=2):
                    self.assertIn(joined(one, other), good)
                    self.assertIn(met(one, other), good)
            else:
                with self.assertRaises(CanNot):
                    coarsest(machine)
        self.assertTrue(10 < kept < len(self.MACHINES) - 10)

    def test_letters_of_one_token_can_be_exchanged(self):
        for machine in self.MACHINES:
            for telling in good_tellings(machine)[:3]:
                for word in words_up_to(len(telling), 3):
                    if returns(machine, word):
                        for other in spread(telling, told(telling, word)):
                            self.assertIs(returns(machine, other), True)

    def test_edges(self):
        for machine in ((((0, 0, 0),), ()), (((0, 0, 0),), (0,)), (((1, 1, 0), (0, 1, 0)), ()),
                        (((1, 1, 0), (0, 1, 0)), (0, 1))):
            self.assertEqual(coarsest(machine), (0, 0, 0))
            self.assertEqual(good_tellings(machine), tellings(3))
        for machine in (LAST, SOME):
            self.assertEqual(good_tellings(machine), [])
        self.assertEqual(good_tellings((((1,), (0,)), (1,))), [(0,)])
        self.assertEqual(coarsest((((1,), (2,), (0,)), (1,))), (0,))

    def test_of_the_least_machine(self):
        # The same as ODDS, with STATES too many; letters 2 and 3 leave its two STATES, each in its own way here.
        machine = (((1, 2, 0), (2, 1, 3), (3, 0, 2), (0, 3, 1)), (1, 3))
        self.assertEqual(coarsest(machine), (0, 1, 1))
        self.assertEqual(good_tellings(machine), [(0, 1, 1), (0, 1, 2)])

    def test_a_token_for_each_letter_and_one_for_all(self):
        four = (((0, 1, 2, 1), (1, 2, 0, 0), (2, 0, 1, 2)), (0,))
        self.assertEqual(coarsest(four), (0, 1, 2, 3))
        self.assertEqual(good_tellings(four), [(0, 1, 2, 3)])
        self.assertEqual(coarsest((((0, 1, 2), (1, 2, 0), (2, 0, 1)), (0,))), (0, 1, 2))
        self.assertEqual(coarsest(TWOS), (0, 0))
        self.assertEqual(coarsest(ODDS), (0, 1))


if __name__ == "__main__":
    unittest.main()
