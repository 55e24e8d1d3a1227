"""Queues, some letters shown: gonetold/shown.py."""

import unittest

from gonetold.doings import doings
from gonetold.errors import CanNot, TooMuch, Unfit
from gonetold.keepers import answers_along, first_parting, is_keeper
from gonetold.kept import is_kept
from gonetold.leastshown import barred, least_shown
from gonetold.machines import least, letters_in, state_behind
from gonetold.shown import bar, is_bar, is_kept_shown, made_shown
from tests.oracles import (PIECES, all_machines, changed, least_plainly, led, levelled_machines, long_histories, nested,
                           ring, some_machines, sound_histories, standings_plainly, turning_machines, words_up_to,
                           wrong_behind)
from tests.papers import is_bar_plainly, is_keeper_plainly, states_behind

LAST, SOME, ODDS = (((1, 0), (1, 0)), (1,)), (((1, 0), (1, 1)), (1,)), (((1, 0), (0, 1)), (1,))
PAIR = (((1, 0), (2, 0), (2, 0)), (2,))
# The same as LAST, with STATES too many, and another one that none leads to.
WIDE = (((2, 1), (2, 1), (2, 3), (2, 1), (0, 0)), (2,))
NOTHING, EVERYTHING = (((0, 0),), ()), (((1, 1), (0, 0)), (0, 1))
# The last three letters decide.
THREES = (tuple((2 * state % 8, (2 * state + 1) % 8) for state in range(8)), (0, 3, 6))
NAMED = [LAST, SOME, ODDS, PAIR, WIDE, NOTHING, EVERYTHING, THREES]
SMALL = ([machine for states, letters in ((1, 1), (1, 2), (2, 1), (2, 2), (3, 1))
          for machine in all_machines(states, letters)] + list(all_machines(3, 2))[::29])
GREATER = (turning_machines(3, 2, 4) + levelled_machines(2, 6) + some_machines(4, 2, 12) + some_machines(5, 2, 6)
           + some_machines(3, 3, 6))
MACHINES = SMALL + GREATER + NAMED
SHORT = {1: 8, 2: 6, 3: 4, 4: 3}
LONG = {1: 7, 2: 5, 3: 3, 4: 3}


def words_of(letters, many):
    """All words of just so many letters."""
    return [word for word in words_up_to(letters, many) if len(word) == many]


def bar_plainly(small, shown, longest):
    """Whether there is a bar whose word ahead has at most longest letters."""
    letters = len(small[0][0])
    images = {frozenset(states_behind(small, word)) for word in words_up_to(letters, longest)}
    return any(led(small, 0, word) not in {led(small, state, word) for state in image}
               for image in images for word in words_of(letters, shown))


class BarTest(unittest.TestCase):

    def test_kept_exactly_if_there_is_no_bar(self):
        kept = {True: 0, False: 0}
        for machine in MACHINES:
            small = least(machine)
            for shown in range(4):
                # Words of a few letters come to all sets of STATES of the small ones here.
                expected = not bar_plainly(small, shown, LONG[letters_in(machine)])
                if len(machine[0]) < 4 or machine in NAMED:
                    self.assertIs(is_kept_shown(machine, shown), expected, (machine, shown))
                elif not expected:
                    self.assertIs(is_kept_shown(machine, shown), False)
                kept[expected] += 1
                self.check_bar(machine, small, shown)
        self.assertGreater(min(kept.values()), 100)

    def check_bar(self, machine, small, shown):
        if is_kept_shown(machine, shown):
            with self.assertRaises(CanNot):
                bar(machine, shown)
        else:
            found = bar(machine, shown)
            self.assertIs(is_bar_plainly(small, shown, found), True, (machine, shown, found))
            self.assertIs(is_bar(machine, shown, found), True)

    def test_kept_with_more_if_with_some(self):
        for machine in MACHINES:
            told = [is_kept_shown(machine, shown) for shown in range(8)]
            self.assertEqual(told, sorted(told))

    def test_with_0_as_with_a_token_for_each_letter(self):
        for machine in MACHINES:
            telling = tuple(range(letters_in(machine)))
            self.assertIs(is_kept_shown(machine, 0), is_kept(machine, telling))

    def test_each_bar_refutes(self):
        # 0 . v is unlike 0 . w v for w = v x, v x v x, ..: some word tells them apart behind both.
        for machine in MACHINES:
            small = least(machine)
            for shown in range(4):
                if not is_kept_shown(machine, shown):
                    gone, ahead = bar(machine, shown)
                    for times in range(1, 5):
                        self.assertNotEqual(led(small, 0, ahead), led(small, 0, (ahead + gone) * times + ahead))

    def test_many_letters_shown(self):
        self.assertIs(is_kept_shown(SOME, 60), False)
        self.assertIs(is_bar(SOME, 60, bar(SOME, 60)), True)
        self.assertIs(is_kept_shown(LAST, 10 ** 30), True)
        self.assertIs(is_kept_shown(SOME, 10 ** 30), False)
        for machine in (LAST, ODDS, NOTHING, EVERYTHING):
            with self.assertRaises(CanNot):
                bar(machine, 10 ** 30)

    def test_edges(self):
        for shown in range(4):
            for machine in (NOTHING, EVERYTHING, ODDS, (((0,),), ()), ring(5)):
                self.assertIs(is_kept_shown(machine, shown), True)
            self.assertIs(is_kept_shown(SOME, shown), False)
            self.assertIs(is_kept_shown(WIDE, shown), is_kept_shown(LAST, shown))
            self.assertIs(is_kept_shown(THREES, shown), shown == 3)
            # Behind one letter none leads back to STATE 0: is there one, and no more than two of them?
            self.assertIs(is_kept_shown((((1,), (2,), (3,), (3,)), (1, 2)), shown), shown == 3)

    def test_unfit_first_of_all(self):
        for machine in (LAST, SOME, ODDS):
            for shown in (-1, -(10 ** 30), True, False, None, "0", (0,)):
                for call in (lambda: is_kept_shown(machine, shown), lambda: bar(machine, shown),
                             lambda: is_bar(machine, shown, ((1,), ())), lambda: made_shown(machine, shown)):
                    with self.assertRaises(Unfit):
                        call()


class IsBarTest(unittest.TestCase):

    def test_short_pairs(self):
        for machine in SMALL[::13] + NAMED:
            small = least_plainly(machine) if len(machine[0]) < 5 else least(machine)
            words = words_up_to(letters_in(machine), 3)
            for shown in range(5):
                for gone in words:
                    for ahead in words:
                        thing = (gone, ahead)
                        self.assertIs(is_bar(machine, shown, thing), is_bar_plainly(small, shown, thing))

    def test_things_near_bars(self):
        for machine, shown in ((LAST, 0), (LAST, 1), (SOME, 0), (SOME, 1), (SOME, 2), (WIDE, 0), (PAIR, 1), (ODDS, 1)):
            small = least_plainly(machine)
            told = 0
            for value in (((1,), ()), ((1,), (2,)), ((2, 1), (2, 2)), ((1, 1, 2), (1,)), ((), (2, 2))):
                for thing in (value, *changed(value)):
                    expected = is_bar_plainly(small, shown, thing)
                    self.assertIs(is_bar(machine, shown, thing), expected, repr(thing))
                    told += expected
            self.assertEqual(told > 0, not is_kept_shown(machine, shown))

    def test_other_things(self):
        for thing in PIECES + tuple(nested(levels, kind) for levels in (98, 99, 100) for kind in (tuple, list)):
            for shown in (0, 1, 2):
                self.assertIs(is_bar(SOME, shown, thing), False)
                self.assertIs(is_bar(SOME, shown, ((1,), thing)), thing == (2,) * shown and type(thing) is tuple)
        for thing in (((1,), (2, 2, 2)), ((1,), (2,)), ((1,), ()), ((3,), (2, 2)), ((1,), (2, 3)), ((1,), (2, 0)),
                      ((1,), [2, 2]), [(1,), (2, 2)], ((1,), (2, 2), ()), ((1,),), ((2,), (2, 2)), ((), (2, 2)),
                      ((1,), (1, 2)), ((1,), (2, 1)), ((True,), (2, 2)), ((1,), "22")):
            self.assertIs(is_bar(SOME, 2, thing), False, repr(thing))
        self.assertIs(is_bar(SOME, 2, ((1,) * 3, (2, 2))), True)

    def test_beyond_the_bounds(self):
        self.assertIs(is_bar(SOME, 100000, ((1,) * 100000, (2,) * 100000)), True)
        self.assertIs(is_bar(SOME, 100000, ((1,), (2,) * 99999)), False)
        self.assertIs(is_bar(SOME, 100000, ((2,) * 100000, (2,) * 100000)), False)
        self.assertIs(is_bar(SOME, 10 ** 30, ((1,), ())), False)
        self.assertIs(is_bar(SOME, 1, ((1,), (10 ** 5000,))), False)


class MadeShownTest(unittest.TestCase):

    def rooms_at_most(self, machine, shown):
        many, letters = len(doings(machine)), letters_in(machine)
        return many * many * len(words_up_to(letters, shown))

    def test_a_right_keeper(self):
        tried = 0
        for machine in MACHINES:
            for shown in range(4):
                if is_kept_shown(machine, shown):
                    if self.rooms_at_most(machine, shown) > 4000:
                        with self.assertRaises(TooMuch):
                            made_shown(machine, shown)
                    elif self.rooms_at_most(machine, shown) < 600 or machine in NAMED:
                        tried += 1
                        self.check_made(machine, shown)
                else:
                    with self.assertRaises(CanNot):
                        made_shown(machine, shown)
        self.assertGreater(tried, 100)

    def check_made(self, machine, shown):
        keeper = made_shown(machine, shown)
        letters = letters_in(machine)
        telling = tuple(range(letters)) if shown == 0 else (0,) * letters
        self.assertEqual(keeper[:3], ("queue", shown, telling))
        self.assertIs(is_keeper(keeper), True)
        if len(keeper[3]) < 200:
            self.assertIs(is_keeper_plainly(keeper), True)
        for history in sound_histories(letters, SHORT[letters]):
            self.assertIs(wrong_behind(keeper, machine, history), False, (machine, shown, history))
        for history in long_histories(letters, 120, 3):
            rows = standings_plainly("queue", history)
            self.assertEqual(answers_along(keeper, history), [led(machine, 0, row) in machine[1] for row in rows])

    def test_no_history_parts_them(self):
        for machine, shown in ((LAST, 1), (LAST, 2), (ODDS, 0), (ODDS, 2), (PAIR, 2), (PAIR, 3), (WIDE, 1), (NOTHING, 3),
                               (EVERYTHING, 0), (ring(5), 4)):
            keeper = made_shown(machine, shown)
            self.assertIsNone(first_parting(keeper, machine, 6))

    def test_cannot(self):
        for machine, shown in ((LAST, 0), (WIDE, 0), (PAIR, 0), (PAIR, 1), (SOME, 0), (SOME, 6), (SOME, 10 ** 30)):
            with self.assertRaises(CanNot):
                made_shown(machine, shown)

    def test_too_much_just_above_the_bound(self):
        # Of one letter there are shown + 1 words: 20 . 20 . 10, 2 . 2 . 1000 are 4,000.
        for machine, shown in ((ring(20), 9), (ring(2), 999)):
            keeper = made_shown(machine, shown)
            self.assertEqual(keeper[:3], ("queue", shown, (0,)))
            with self.assertRaises(TooMuch):
                made_shown(machine, shown + 1)
        self.assertEqual(answers_along(keeper, (("in", 1),) * 5 + (("out",),) * 4),
                         [True, False, True, False, True, False, True, False, True, False])
        # With nothing shown: 63 . 63 are 3,969, 64 . 64 are 4,096.
        self.assertEqual(made_shown(ring(63), 0)[:3], ("queue", 0, (0,)))
        with self.assertRaises(TooMuch):
            made_shown(ring(64), 0)
        # 7 . 7 . 81 are 3,969, 7 . 7 . 82 are 4,018.
        self.assertEqual(made_shown(ring(7), 80)[1], 80)
        with self.assertRaises(TooMuch):
            made_shown(ring(7), 81)

    def test_too_much_with_one_doing(self):
        # One word above the bound: of 0 to 4,000 letters there are 4,001.
        with self.assertRaises(TooMuch):
            made_shown((((0,),), ()), 4000)
        keeper = made_shown((((0,),), (0,)), 60)
        self.assertEqual((keeper[:3], set(keeper[3])), (("queue", 60, (0,)), {True}))

    def test_too_much_with_more_letters(self):
        # Of two letters there are 2,047 words of 0 to 10 letters, and 4,095 of 0 to 11.
        for shown, fits in ((9, True), (10, True), (11, False), (10 ** 30, False)):
            if fits:
                self.assertEqual(made_shown(NOTHING, shown)[:3], ("queue", shown, (0, 0)))
            else:
                with self.assertRaises(TooMuch):
                    made_shown(NOTHING, shown)

    def test_cannot_ahead_of_too_much(self):
        # Nothing leads back, however many letters go: of more than 63 DOINGS none has 0 in it but that of ().
        line = (tuple((min(state + 1, 69),) for state in range(70)), (69,))
        self.assertEqual(len(doings(line)), 70)
        with self.assertRaises(CanNot):
            made_shown(line, 68)
        with self.assertRaises(TooMuch):
            made_shown(line, 69)

    def test_where_what_stands_leads(self):
        keeper = made_shown(THREES, 3)
        for history in long_histories(2, 200, 3):
            rows = standings_plainly("queue", history)
            self.assertEqual(answers_along(keeper, history), [state_behind(THREES, row) in THREES[1] for row in rows])


class AgreeTest(unittest.TestCase):

    def test_with_the_barred_pairs_and_the_least_number(self):
        for machine in MACHINES:
            fewest = least_shown(machine)
            for shown in range(6):
                told = is_kept_shown(machine, shown)
                self.assertIs(told, barred(machine, shown) == ())
                self.assertIs(told, fewest is not None and fewest <= shown)


if __name__ == "__main__":
    unittest.main()
