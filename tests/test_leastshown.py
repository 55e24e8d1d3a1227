"""How few letters shown will do: gonetold/leastshown.py."""

import unittest

from gonetold.doings import doing_of, is_idempotent
from gonetold.errors import CanNot, Unfit
from gonetold.leastshown import barred, is_never_paper, least_shown, longest_bar, never_paper
from gonetold.machines import least, letters_in
from gonetold.shown import bar, is_bar, is_kept_shown, made_shown
from tests.oracles import (PIECES, all_machines, changed, least_plainly, led, levelled_machines, nested, ring,
                           some_machines, turning_machines, words_up_to)
from tests.papers import is_bar_plainly, is_never_paper_plainly, states_behind

LAST, SOME, ODDS = (((1, 0), (1, 0)), (1,)), (((1, 0), (1, 1)), (1,)), (((1, 0), (0, 1)), (1,))
PAIR = (((1, 0), (2, 0), (2, 0)), (2,))
WIDE = (((2, 1), (2, 1), (2, 3), (2, 1), (0, 0)), (2,))
NOTHING, EVERYTHING = (((0, 0),), ()), (((1, 1), (0, 0)), (0, 1))
# The last three letters decide; whether the last letter 1 or 2 is a 1, letters 3 left out of count.
THREES = (tuple((2 * state % 8, (2 * state + 1) % 8) for state in range(8)), (0, 3, 6))
NEWEST = (((1, 0, 0), (1, 0, 1)), (1,))
# It takes 12 letters to know that 11 or more stand.
LINE = (tuple((min(state + 1, 11),) for state in range(12)), (11,))
NAMED = [LAST, SOME, ODDS, PAIR, WIDE, NOTHING, EVERYTHING, THREES, NEWEST]
SMALL = ([machine for states, letters in ((1, 1), (1, 2), (2, 1), (2, 2), (3, 1))
          for machine in all_machines(states, letters)] + list(all_machines(3, 2))[::19])
GREATER = (turning_machines(3, 2, 4) + levelled_machines(2, 8) + some_machines(4, 2, 16) + some_machines(5, 2, 8)
           + some_machines(3, 3, 8) + [LINE])
MACHINES = SMALL + GREATER + NAMED


def sets_of(small):
    """All sets of STATES to which words lead all STATES of a least machine."""
    steps, found = small[0], []
    waiting = [tuple(range(len(steps)))]
    while waiting:
        image = waiting.pop()
        if image not in found:
            found.append(image)
            waiting.extend(tuple(sorted({steps[state][at] for state in image})) for at in range(len(steps[0])))
    return found


def barred_plainly(small, shown):
    """The set of the barred pairs, gone through word by word."""
    words = [word for word in words_up_to(len(small[0][0]), shown) if len(word) == shown]
    pairs = {(led(small, 0, word), tuple(sorted({led(small, state, word) for state in image})))
             for image in sets_of(small) for word in words}
    return tuple(sorted(pair for pair in pairs if pair[0] not in pair[1]))


def in_shown(machine, most):
    """The least number, up to most, with which is_kept_shown says that it is kept, or None."""
    return next((shown for shown in range(most + 1) if is_kept_shown(machine, shown)), None)


def at_most(small):
    """What the least number is at most: how many pairs (s, Q . x) there are."""
    return len(small[0]) * len(sets_of(small))


class BarredTest(unittest.TestCase):

    def test_made_from_words_alone(self):
        for machine in MACHINES:
            small = least(machine)
            for shown in range(5):
                self.assertEqual(barred(machine, shown), barred_plainly(small, shown), (machine, shown))

    def test_none_if_it_is_kept(self):
        for machine in MACHINES:
            for shown in range(7):
                self.assertIs(barred(machine, shown) == (), is_kept_shown(machine, shown))

    def test_each_has_one_for_each_beginning(self):
        for machine in MACHINES:
            steps = least(machine)[0]
            for shown in range(4):
                ahead = {(steps[state][at], tuple(sorted({steps[own][at] for own in image})))
                         for state, image in barred(machine, shown) for at in range(len(steps[0]))}
                self.assertEqual(barred(machine, shown + 1), tuple(sorted(pair for pair in ahead if pair[0] not in pair[1])))

    def test_each_bar_has_one(self):
        for machine in MACHINES:
            small = least(machine)
            for shown in range(5):
                if not is_kept_shown(machine, shown):
                    gone, ahead = bar(machine, shown)
                    pair = (led(small, 0, ahead), tuple(sorted(states_behind(small, gone + ahead))))
                    self.assertIn(pair, barred(machine, shown))

    def test_edges(self):
        for machine in (NOTHING, EVERYTHING, ODDS, (((0,),), ()), ring(12)):
            for shown in (0, 1, 6):
                self.assertEqual(barred(machine, shown), ())
        self.assertEqual(barred(WIDE, 0), ((0, (1,)),))
        self.assertEqual(barred(SOME, 60), ((0, (1,)),))
        self.assertEqual([len(barred(LINE, shown)) for shown in (0, 1, 9, 10, 11)], [11, 10, 2, 1, 0])
        self.assertEqual(barred(LINE, 10), ((10, (11,)),))

    def test_unfit(self):
        for machine in (LAST, SOME, NOTHING):
            for shown in (-1, -(10 ** 30), True, False, None, "0", (0,)):
                with self.assertRaises(Unfit):
                    barred(machine, shown)


class LeastShownTest(unittest.TestCase):

    def test_the_least_number_or_none(self):
        found = {}
        for machine in MACHINES:
            small = least(machine)
            fewest = least_shown(machine)
            found[fewest] = found.get(fewest, 0) + 1
            self.assertEqual(fewest, in_shown(machine, at_most(small)), machine)
            if fewest is not None:
                self.assertLessEqual(fewest, at_most(small))
                self.assertEqual(barred_plainly(small, min(fewest, 5)) == (), fewest <= 5)
        self.assertLessEqual({None, 0, 1, 2, 3, 11}, set(found))

    def test_by_hand(self):
        for machine, fewest in ((ODDS, 0), (LAST, 1), (WIDE, 1), (PAIR, 2), (THREES, 3), (SOME, None), (NEWEST, None),
                                (LINE, 11), (NOTHING, 0), (EVERYTHING, 0), ((((0,),), ()), 0), (ring(12), 0)):
            self.assertEqual(least_shown(machine), fewest)
            self.assertIs(type(least_shown(machine)), type(fewest))

    def test_a_keeper_is_made_with_it_and_with_no_less(self):
        for machine in (ODDS, LAST, WIDE, PAIR, THREES, NOTHING, LINE):
            fewest = least_shown(machine)
            self.assertEqual(made_shown(machine, fewest)[1], fewest)
            for shown in range(fewest):
                with self.assertRaises(CanNot):
                    made_shown(machine, shown)


class LongestBarTest(unittest.TestCase):

    def test_a_bar_for_one_less(self):
        tried = 0
        for machine in MACHINES:
            fewest = least_shown(machine)
            if fewest is None or fewest == 0:
                with self.assertRaises(CanNot):
                    longest_bar(machine)
            else:
                tried += 1
                found = longest_bar(machine)
                self.assertIs(is_bar_plainly(least(machine), fewest - 1, found), True)
                self.assertIs(is_bar(machine, fewest - 1, found), True)
        self.assertGreater(tried, 30)


class NeverPaperTest(unittest.TestCase):

    def test_there_is_one_exactly_if_no_number_will_do(self):
        tried = 0
        for machine in MACHINES:
            if least_shown(machine) is None:
                tried += 1
                found = never_paper(machine)
                self.assertIs(is_never_paper_plainly(least(machine), found), True, (machine, found))
                self.assertIs(is_never_paper(machine, found), True)
            else:
                with self.assertRaises(CanNot):
                    never_paper(machine)
        self.assertGreater(tried, 30)

    def test_no_short_one_if_some_number_will_do(self):
        for machine in MACHINES:
            if least_shown(machine) is not None and letters_in(machine) < 3:
                words = words_up_to(letters_in(machine), 3)
                things = [(ahead, gone, turn) for ahead in words for gone in words for turn in words[1:]]
                self.assertEqual([thing for thing in things[::7] if is_never_paper(machine, thing)], [])

    def test_with_the_turn_any_number_of_times_there_is_a_bar(self):
        for machine in MACHINES:
            if least_shown(machine) is None:
                ahead, gone, turn = never_paper(machine)
                self.assertIs(is_idempotent(doing_of(machine, turn)), True)
                for times in range(6):
                    word = ahead + turn * times
                    self.assertIs(is_bar(machine, len(word), (gone, word)), True)

    def test_a_turn_that_has_to_be_done_often(self):
        # Letter 2 goes round three STATES, and from them letter 1 to a fourth one that it leaves.
        machine = (((3, 1), (3, 2), (3, 0), (3, 3)), (1, 3))
        self.assertIsNone(least_shown(machine))
        found = never_paper(machine)
        self.assertIs(is_never_paper_plainly(least(machine), found), True)
        self.assertIs(is_never_paper(machine, ((), (1,), (2, 2, 2))), True)
        for turn in ((2,), (2, 2), (2, 2, 2, 2), (1,)):
            self.assertIs(is_never_paper(machine, ((), (1,), turn)), False)

    def test_short_triples(self):
        for machine in SMALL[::23] + NAMED:
            small = least_plainly(machine) if len(machine[0]) < 5 else least(machine)
            words = words_up_to(letters_in(machine), 2)
            for ahead in words:
                for gone in words:
                    for turn in words:
                        thing = (ahead, gone, turn)
                        self.assertIs(is_never_paper(machine, thing), is_never_paper_plainly(small, thing))

    def test_things_near_never_papers(self):
        for machine in (SOME, NEWEST, LAST, (((3, 1), (3, 2), (3, 0), (3, 3)), (1, 3))):
            small = least_plainly(machine)
            told = 0
            for value in (((), (1,), (2,)), ((2,), (2, 1), (2, 2)), ((), (1,), (3,)), ((2, 2), (1,), (2, 2, 2)),
                          ((1,), (2,), (3, 3))):
                for thing in (value, *changed(value)):
                    expected = is_never_paper_plainly(small, thing)
                    self.assertIs(is_never_paper(machine, thing), expected, repr(thing))
                    told += expected
            self.assertEqual(told > 0, least_shown(machine) is None)

    def test_other_things(self):
        for thing in PIECES + tuple(nested(levels, kind) for levels in (98, 99, 100) for kind in (tuple, list)):
            self.assertIs(is_never_paper(SOME, thing), False)
            for at in range(3):
                paper = ((), (1,), (2,))
                expected = is_never_paper_plainly(SOME, paper[:at] + (thing,) + paper[at + 1:])
                self.assertIs(is_never_paper(SOME, paper[:at] + (thing,) + paper[at + 1:]), expected)
        for thing in (((), (1,)), ((), (1,), (2,), ()), [(), (1,), (2,)], ([], (1,), (2,)), ((), (3,), (2,)),
                      ((3,), (1,), (2,)), ((), (1,), (2, 3)), ((), (1,), (0,)), ((), (True,), (2,)), ((), (), (2,)),
                      ((), (2,), (2,)), ((1,), (1,), (2,)), ((), (1,), (1,)), ((), (1,), ()), ("", "1", "2")):
            self.assertIs(is_never_paper(SOME, thing), False, repr(thing))

    def test_beyond_the_bounds(self):
        great = (2,) * 100000
        self.assertIs(is_never_paper(SOME, (great, great + (1,), great)), True)
        self.assertIs(is_never_paper(SOME, (great, great, great)), False)
        self.assertIs(is_never_paper(SOME, (great + (1,), (1,), great)), False)
        self.assertIs(is_never_paper(SOME, ((), (1,), (10 ** 5000,))), False)


class BoundsTest(unittest.TestCase):

    def test_twelve_states(self):
        # By these letters all sets of STATES are come to.
        steps = tuple(((state + 1) % 12, {0: 1, 1: 0}.get(state, state), 0 if state == 1 else state, state)
                      for state in range(12))
        machine = (steps, (11,))
        self.assertIsNone(least_shown(machine))
        self.assertIs(is_never_paper_plainly(least(machine), never_paper(machine)), True)
        self.assertEqual(len(barred(machine, 0)), 2 ** 11 - 1)
        self.assertIs(is_bar(machine, 6, bar(machine, 6)), True)
        for own in some_machines(12, 4, 3) + some_machines(12, 2, 3) + [LINE]:
            fewest = least_shown(own)
            self.assertEqual(fewest, in_shown(own, 40))


if __name__ == "__main__":
    unittest.main()
