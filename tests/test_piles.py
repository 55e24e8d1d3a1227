"""Piles: gonetold/piles.py."""

import itertools
import unittest

from gonetold.errors import CanNot, TooMuch, Unfit
from gonetold.keepers import first_parting, is_keeper, rooms_along
from gonetold.machines import least, letters_in
from gonetold.piles import bar_pile, is_bar_pile, is_kept_pile, least_pile, least_rank, made_pile
from gonetold.tellings import tellings
from gonetold.words import outs, puts
from tests.oracles import (PIECES, all_machines, answers_plainly, changed, doings_plainly, led, levelled_machines,
                           long_histories, nested, ring, some_machines, sound_histories, standings_plainly,
                           turning_machines, words_up_to)
from tests.papers import is_keeper_plainly, is_pile_bar_plainly

ODD, LAST, ANY_ONE = (((1,), (0,)), (1,)), (((1, 0), (1, 0)), (1,)), (((1, 0), (1, 1)), (1,))
TURNS = (((1, 1), (0, 2), (2, 0)), (0,))
PAIR = (((1, 0), (2, 0), (2, 0)), (2,))
WIDE = (((2, 1), (2, 1), (2, 3), (2, 1)), (2,))
NOTHING, EVERYTHING = (((0, 0),), ()), (((1, 1), (0, 0)), (0, 1))
# The last three letters decide.
THREES = (tuple((2 * state % 8, (2 * state + 1) % 8) for state in range(8)), (0, 3, 6))
# Letter 1 goes round three states, 2 merges two of these into one: 1 alone merges none.
MERGING = (((1, 0), (2, 1), (0, 1)), (0,))
# It has 5 ** 5 doings: letters that turn, exchange and merge.
ALL_DOINGS = (((1, 1, 0), (2, 0, 0), (3, 2, 2), (4, 3, 3), (0, 4, 4)), (0,))
NAMED = [ODD, LAST, ANY_ONE, TURNS, PAIR, WIDE, NOTHING, EVERYTHING, THREES, MERGING]
SMALL = ([machine for states, letters in ((1, 1), (1, 2), (2, 1), (2, 2), (3, 1))
          for machine in all_machines(states, letters)] + list(all_machines(3, 2))[::23])
GREATER = (turning_machines(3, 2, 6) + turning_machines(4, 3, 4) + levelled_machines(2, 6) + some_machines(4, 2, 12)
           + some_machines(3, 3, 8) + some_machines(4, 1, 4))
MACHINES = SMALL + GREATER + NAMED


def rank_plainly(small, word):
    """How many states a word leads the states of a least machine to."""
    return len({led(small, state, word) for state in range(len(small[0]))})


def least_rank_plainly(small):
    return min(len(set(doing)) for doing in doings_plainly(small))


def is_kept_plainly(small, shown, telling):
    """Whether a least machine is kept, asked of each word of so many letters and each pair of letters."""
    letters = len(telling)
    lowest = least_rank_plainly(small)
    if any(rank_plainly(small, word) != lowest for word in itertools.product(range(1, letters + 1), repeat=shown)):
        return False
    rows = [tuple(row[at] for row in small[0]) for at in range(letters)]
    return shown > 0 or all(rows[one] == rows[other] for one in range(letters) for other in range(letters)
                            if telling[one] == telling[other])


def least_pile_plainly(small):
    """The least number shown: the doings of all words of 0, 1, .. letters are gone through till they come again."""
    letters = range(len(small[0][0]))
    lowest, level, met = least_rank_plainly(small), {tuple(range(len(small[0])))}, []
    while level not in met:
        if all(len(set(doing)) == lowest for doing in level):
            return len(met)
        met.append(level)
        level = {tuple(small[0][state][at] for state in doing) for doing in level for at in letters}
    return None


def sight_of(word, shown):
    return word[len(word) - min(shown, len(word)):]


def made_plainly(small, shown, telling):
    """The keeper of a pile, its triples told by words long enough to lead to each state that is seen so."""
    letters = range(1, len(telling) + 1)
    words = words_up_to(len(telling), shown + len(small[0]))
    places = {(led(small, 0, word), sight_of(word, shown), word[-shown - 1:]) for word in words}
    rooms, table = [(0, ())], []
    for state, sight in rooms:
        triples = {(("in", letter), sight_of(sight + (letter,), shown),
                    (small[0][state][letter - 1], sight_of(sight + (letter,), shown))) for letter in letters}
        for before, eye, tail in places:
            for letter in letters:
                if small[0][before][letter - 1] == state and sight_of(tail + (letter,), shown) == sight:
                    triples.add((("out", telling[letter - 1]), eye, (before, eye)))
        row = []
        for heard, eye, place in sorted(triples):
            if place not in rooms:
                rooms.append(place)
            row.append((heard, eye, rooms.index(place)))
        table.append(tuple(row))
    return ("pile", shown, telling, tuple(state in small[1] for state, _ in rooms), 0, tuple(table))


class LeastTest(unittest.TestCase):

    def test_least_rank_and_least_pile(self):
        told = set()
        for machine in MACHINES:
            small = least(machine)
            self.assertEqual(least_rank(machine), least_rank_plainly(small), machine)
            self.assertEqual(least_pile(machine), least_pile_plainly(small), machine)
            told.add(least_pile(machine))
        self.assertTrue({0, 1, 2, None} <= told, told)

    def test_least_pile_is_the_least_with_which_it_is_kept(self):
        for machine in MACHINES:
            finest = tuple(range(letters_in(machine)))
            number = least_pile(machine)
            for shown in range(6):
                self.assertIs(is_kept_pile(machine, shown, finest), number is not None and shown >= number, machine)

    def test_named_ones(self):
        self.assertEqual([least_pile(own) for own in NAMED], [0, 1, None, 0, 2, 1, 0, 0, 3, None])
        self.assertEqual([least_rank(own) for own in NAMED], [2, 1, 1, 3, 1, 1, 1, 1, 1, 1])

    def test_too_much_just_above_500_doings(self):
        self.assertEqual((least_pile(ring(500)), least_rank(ring(500))), (0, 500))
        for machine in (ring(501), ALL_DOINGS):
            for own in (least_pile, least_rank):
                with self.assertRaises(TooMuch):
                    own(machine)


class IsKeptTest(unittest.TestCase):

    def test_asked_of_each_word(self):
        told = {True: 0, False: 0}
        for machine in MACHINES:
            small = least(machine)
            for shown in range(4):
                for telling in tellings(letters_in(machine)):
                    expected = is_kept_plainly(small, shown, telling)
                    self.assertIs(is_kept_pile(machine, shown, telling), expected, (machine, shown, telling))
                    told[expected] += 1
        self.assertGreater(min(told.values()), 100)

    def test_with_great_numbers_shown(self):
        for shown in (100, 10 ** 6, 10 ** 30):
            self.assertEqual([is_kept_pile(own, shown, (0,) * letters_in(own)) for own in NAMED],
                             [True, True, False, True, True, True, True, True, True, False])

    def test_with_more_shown_it_stays_kept_and_finer_tellings_do_too(self):
        for machine in GREATER:
            for telling in tellings(letters_in(machine)):
                told = [is_kept_pile(machine, shown, telling) for shown in range(5)]
                self.assertEqual(told, sorted(told))

    def test_unfit_first_of_all(self):
        for machine in (LAST, ODD, ring(501), ALL_DOINGS):
            many = letters_in(machine)
            for shown, telling in ((-1, (0,) * many), (True, (0,) * many), (None, (0,) * many), ("1", (0,) * many),
                                   ((), (0,) * many), (0, (0,) * (many + 1)), (0, ()), (1, (1,) * many),
                                   (2, (0,) * (many - 1) + (7,)), (1, None), (0, 0), (1, (True,) * many)):
                for own in (is_kept_pile, bar_pile, made_pile):
                    with self.assertRaises(Unfit, msg=(own, shown, telling)):
                        own(machine, shown, telling)
                with self.assertRaises(Unfit):
                    is_bar_pile(machine, shown, telling, ("sink", (), (1,)))

    def test_too_much_just_above_500_doings(self):
        self.assertIs(is_kept_pile(ring(500), 0, (0,)), True)
        with self.assertRaises(CanNot):
            bar_pile(ring(500), 0, (0,))
        self.assertEqual(len(made_pile(ring(500), 0, (0,))[3]), 500)
        for own in (is_kept_pile, bar_pile, made_pile):
            with self.assertRaises(TooMuch):
                own(ring(501), 0, (0,))
            # It is not kept: but this is asked first.
            with self.assertRaises(TooMuch):
                own(ALL_DOINGS, 1, (0, 1, 2))
        self.assertIs(is_bar_pile(ALL_DOINGS, 0, (0, 1, 2), ("sink", (), (3,))), True)
        self.assertIs(is_bar_pile(ALL_DOINGS, 1, (0, 1, 2), ("sink", (3,), ())), False)


class BarTest(unittest.TestCase):

    def test_one_is_there_exactly_if_it_is_not_kept(self):
        kinds = set()
        for machine in MACHINES:
            small = least(machine)
            for shown in range(4):
                for telling in tellings(letters_in(machine)):
                    if is_kept_plainly(small, shown, telling):
                        with self.assertRaises(CanNot):
                            bar_pile(machine, shown, telling)
                    else:
                        found = bar_pile(machine, shown, telling)
                        self.assertIs(is_pile_bar_plainly(small, shown, telling, found), True, (machine, found))
                        self.assertIs(is_bar_pile(machine, shown, telling, found), True, (machine, found))
                        kinds.add((found[0], shown > 0))
        self.assertEqual(kinds, {("sink", False), ("sink", True), ("unlike", False)})

    def test_with_more_letters_shown(self):
        for shown in (0, 1, 6, 40):
            found = bar_pile(ANY_ONE, shown, (0, 0))
            self.assertEqual((found[0], len(found[1])), ("sink", shown))
            self.assertIs(is_bar_pile(ANY_ONE, shown, (0, 1), found), True)

    def test_all_short_words_and_pairs_of_letters(self):
        words = words_up_to(2, 3)
        for machine in NAMED[1:] + SMALL[30:60]:
            if letters_in(machine) != 2:
                continue
            small = least(machine)
            for shown, telling in ((0, (0, 0)), (0, (0, 1)), (1, (0, 0)), (2, (0, 1))):
                things = [("sink", top, turn) for top in words for turn in words]
                things += [("unlike", one, other) for one in range(4) for other in range(4)]
                for thing in things:
                    self.assertIs(is_bar_pile(machine, shown, telling, thing),
                                  is_pile_bar_plainly(small, shown, telling, thing), (machine, shown, thing))

    def test_things_near_bars(self):
        for machine, shown, telling, value in (
                (LAST, 0, (0, 1), ("sink", (), (1,))), (ANY_ONE, 2, (0, 1), ("sink", (2, 2), (1,))),
                (TURNS, 0, (0, 0), ("unlike", 1, 2)), (WIDE, 0, (0, 0), ("sink", (), (2, 1))),
                (PAIR, 1, (0, 0), ("sink", (1,), (2, 2))), (MERGING, 0, (0, 0), ("unlike", 1, 2))):
            self.assertIs(is_bar_pile(machine, shown, telling, value), True)
            small, told = least(machine), 0
            for thing in changed(value):
                expected = is_pile_bar_plainly(small, shown, telling, thing)
                self.assertIs(is_bar_pile(machine, shown, telling, thing), expected, repr(thing))
                told += expected
            self.assertGreater(told, 0)

    def test_other_things(self):
        deep = tuple(nested(levels, kind) for levels in (97, 99, 100) for kind in (tuple, list))
        for thing in PIECES + deep + tuple((kind, own, own) for kind in ("sink", "unlike") for own in PIECES + deep):
            for machine, shown, telling in ((TURNS, 0, (0, 1)), (LAST, 1, (0, 0))):
                self.assertIs(is_bar_pile(machine, shown, telling, thing), False)
        for thing in (("unlike", 1, 2, 3), ("unlike", 2, 1), ("unlike", 1, 1), ("unlike", 1, 3), ("unlike", True, 2),
                      ("unlike", (1,), (2,)), ["unlike", 1, 2], ("unlike", 0, 1), ("Unlike", 1, 2), ("unlike",)):
            self.assertIs(is_bar_pile(TURNS, 0, (0, 0), thing), False, thing)
        # Of letters shown none is unlike; letters of unlike tokens are none either, nor those with one doing.
        self.assertIs(is_bar_pile(TURNS, 1, (0, 0), ("unlike", 1, 2)), False)
        self.assertIs(is_bar_pile(TURNS, 0, (0, 1), ("unlike", 1, 2)), False)
        self.assertIs(is_bar_pile(EVERYTHING, 0, (0, 0), ("unlike", 1, 2)), False)

    def test_great_things(self):
        self.assertIs(is_bar_pile(ANY_ONE, 20000, (0, 0), ("sink", (2,) * 20000, (1,))), True)
        self.assertIs(is_bar_pile(ANY_ONE, 20000, (0, 0), ("sink", (2,) * 20001, (1,))), False)
        self.assertIs(is_bar_pile(ANY_ONE, 0, (0, 0), ("sink", (), (2,) * 20000 + (1,))), True)
        self.assertIs(is_bar_pile(TURNS, 0, (0, 0), ("unlike", 1, 10 ** 5000)), False)


class MadePileTest(unittest.TestCase):

    def kept_ones(self, machines, most):
        for machine in machines:
            for shown in range(most + 1):
                for telling in tellings(letters_in(machine)):
                    if is_kept_pile(machine, shown, telling):
                        yield machine, shown, telling

    def test_rooms_and_triples_as_the_document_tells_them(self):
        told = 0
        for machine, shown, telling in self.kept_ones(SMALL[::3] + GREATER + NAMED[:5] + NAMED[6:8], 2):
            if letters_in(machine) < 3 or shown < 2:
                expected = made_plainly(least(machine), shown, telling)
                self.assertEqual(made_pile(machine, shown, telling), expected, (machine, shown, telling))
                told += shown > 0
        self.assertGreater(told, 100)

    def test_with_three_letters_shown(self):
        for machine in (THREES, LAST, PAIR):
            self.assertEqual(made_pile(machine, 3, (0, 0)), made_plainly(least(machine), 3, (0, 0)))

    def test_they_are_keepers_and_right_along_all_short_histories(self):
        for machine, shown, telling in self.kept_ones(SMALL[::2] + GREATER + NAMED, 2):
            letters = letters_in(machine)
            keeper = made_pile(machine, shown, telling)
            self.assertIs(is_keeper(keeper), True)
            self.assertEqual(keeper[:3], ("pile", shown, telling))
            if letters < 3:
                self.assertIs(is_keeper_plainly(keeper), True)
            self.assertIsNone(first_parting(keeper, machine, {1: 12, 2: 7, 3: 5}[letters]))

    def test_right_along_histories_told_plainly(self):
        for machine, shown, telling in self.kept_ones([ODD, LAST, TURNS, PAIR, WIDE, MERGING] + GREATER[::4], 3):
            keeper = made_pile(machine, shown, telling)
            letters = letters_in(machine)
            for history in sound_histories(letters, {1: 6, 2: 5, 3: 4}[letters]) + long_histories(letters, 300, 2):
                taken = [led(machine, 0, word) in machine[1] for word in standings_plainly("pile", history)]
                self.assertEqual(answers_plainly(keeper, history), taken, (machine, shown, history))

    def test_as_few_rooms_as_states_with_nothing_shown(self):
        for machine, shown, telling in self.kept_ones(MACHINES, 0):
            self.assertEqual(len(made_pile(machine, shown, telling)[3]), len(least(machine)[0]))

    def test_what_went_is_seen_again(self):
        keeper = made_pile(LAST, 1, (0, 0))
        self.assertEqual(rooms_along(keeper, puts((1, 2, 1)) + outs(3)), [0, 1, 2, 1, 2, 1, 0])

    def test_can_not(self):
        for machine, shown, telling in ((LAST, 0, (0, 1)), (ANY_ONE, 3, (0, 1)), (TURNS, 0, (0, 0)), (PAIR, 1, (0, 1)),
                                        (MERGING, 6, (0, 1)), (ANY_ONE, 10 ** 9, (0, 0))):
            with self.assertRaises(CanNot):
                made_pile(machine, shown, telling)

    def test_too_much_just_above_1000_rooms(self):
        # One letter: as many rooms as letters are shown and states are there.
        self.assertEqual(len(made_pile(ring(400), 600, (0,))[3]), 1000)
        with self.assertRaises(TooMuch):
            made_pile(ring(400), 601, (0,))
        # Of two letters there are 2 ** n - 1 words of fewer than n letters.
        self.assertEqual(len(made_pile(LAST, 8, (0, 0))[3]), 511)
        for machine, shown, telling in ((LAST, 9, (0, 1)), (TURNS, 10, (0, 0)), (ODD, 10 ** 9, (0,)),
                                        ((((0, 0, 0, 0),), ()), 5, (0, 1, 2, 3))):
            with self.assertRaises(TooMuch):
                made_pile(machine, shown, telling)
        # There is none: this is told ahead of how many rooms it would have.
        with self.assertRaises(CanNot):
            made_pile(ANY_ONE, 12, (0, 1))


if __name__ == "__main__":
    unittest.main()
