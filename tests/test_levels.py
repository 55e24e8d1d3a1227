"""Nothing told: gonetold/levels.py."""

import itertools
import unittest

from gonetold.errors import CanNot, NoPlace, TooMuch, Unfit
from gonetold.keepers import first_parting, is_keeper
from gonetold.kept import is_kept
from gonetold.levels import (fewest_rooms, is_levelled, level_of, level_rows, levels, made_level, row_of, unlevelled)
from gonetold.machines import least, letters_in
from tests.oracles import (all_machines, answers_plainly, led, levelled_machines, long_histories, ring, some_machines,
                           sound_histories, standings_plainly, turning_machines, words_up_to)

ODD, LAST, BY_TWO = (((1,), (0,)), (1,)), (((1, 0), (1, 0)), (1,)), (((1, 2), (0, 0), (0, 0)), (1,))
ODDS, SOME = (((1, 0), (0, 1)), (1,)), (((1, 0), (1, 1)), (1,))
NOTHING, EVERYTHING = (((0, 0),), ()), (((1, 1), (0, 0)), (0, 1))
# Words of an odd number of letters, the last one 1, with states too many.
WIDE = (((1, 2), (3, 3), (3, 3), (4, 5), (0, 3), (3, 0)), (1, 4))
# Three steps of a round, with two states on the second and three on the third.
THREE = (((1, 2), (3, 4), (5, 3), (0, 0), (0, 0), (0, 0)), (1, 3, 5))
FOUR_LETTERS = (((1, 1, 2, 2), (0, 0, 0, 0), (0, 0, 0, 0)), (2,))
NAMED = [ODD, LAST, BY_TWO, ODDS, SOME, NOTHING, EVERYTHING, WIDE, THREE, FOUR_LETTERS]
SMALL = ([machine for states, letters in ((1, 1), (1, 2), (2, 1), (2, 2), (3, 1))
          for machine in all_machines(states, letters)] + list(all_machines(3, 2))[::23])
GREATER = (levelled_machines(1, 6) + levelled_machines(2, 24) + levelled_machines(3, 8) + turning_machines(3, 2, 6)
           + some_machines(4, 2, 10) + some_machines(3, 3, 6))
MACHINES = SMALL + GREATER + NAMED


def words_of(letters, many):
    return list(itertools.product(range(1, letters + 1), repeat=many))


def level_plainly(small):
    """The least number from 1, up to that of the states, all words of so many letters of which return, or None."""
    for many in range(1, len(small[0]) + 1):
        if all(led(small, 0, word) == 0 for word in words_of(len(small[0][0]), many)):
            return many
    return None


def row_plainly(small, level, word):
    return tuple(led(small, 0, word[at:]) for at in range(level))


def levelled(machines):
    """The triples of a levelled machine, its least one and its level."""
    told = [(machine, least(machine), level_plainly(least(machine))) for machine in machines]
    return [own for own in told if own[2] is not None]


def all_words(level):
    """A machine with a state for each word of letters 1 and 2 with fewer letters than level; with more it is at 0."""
    words = words_up_to(2, level - 1)
    steps = tuple(tuple(words.index(word + (letter,)) if len(word) + 1 < level else 0 for letter in (1, 2))
                  for word in words)
    return steps, tuple(at for at in range(len(words)) if at % 7 in (1, 2, 4))


class LevelTest(unittest.TestCase):

    def test_asked_of_each_word(self):
        told = set()
        for machine in MACHINES:
            small = least(machine)
            level = level_plainly(small)
            told.add(level)
            self.assertIs(is_levelled(machine), level is not None, machine)
            if level is None:
                for own in (level_of, levels, level_rows, fewest_rooms, made_level):
                    with self.assertRaises(CanNot):
                        own(machine)
                with self.assertRaises(CanNot):
                    row_of(machine, (9, 9))
            else:
                self.assertEqual(level_of(machine), level)
                expected = [{led(small, 0, word) for word in words_of(len(small[0][0]), many)} for many in range(level)]
                self.assertEqual(levels(machine), tuple(tuple(sorted(own)) for own in expected))
                with self.assertRaises(CanNot):
                    unlevelled(machine)
        self.assertTrue({None, 1, 2, 3} <= told)

    def test_levelled_exactly_if_kept_with_one_token(self):
        for machine in MACHINES:
            self.assertIs(is_levelled(machine), is_kept(machine, (0,) * letters_in(machine)))

    def test_each_state_is_in_one_level(self):
        for machine, small, _ in levelled(MACHINES):
            self.assertEqual(sorted(state for own in levels(machine) for state in own), list(range(len(small[0]))))

    def test_unlevelled(self):
        for machine in MACHINES:
            small = least(machine)
            if level_plainly(small) is None:
                expected = []
                for many in range(1, len(small[0]) + 1):
                    expected.append([word for word in words_of(len(small[0][0]), many) if led(small, 0, word) != 0][0])
                self.assertEqual(unlevelled(machine), tuple(expected), machine)

    def test_of_one_state_and_of_one_letter(self):
        self.assertEqual((level_of(NOTHING), levels(NOTHING), level_rows(NOTHING)), (1, ((0,),), ((0,),)))
        self.assertEqual((level_of(EVERYTHING), fewest_rooms(EVERYTHING)), (1, 1))
        for many in (2, 3, 12, 40):
            self.assertEqual((level_of(ring(many)), fewest_rooms(ring(many))), (many, many))
        self.assertEqual(unlevelled((((1,), (1,)), (1,))), ((1,), (1, 1)))

    def test_great_machines(self):
        # One of so many states that goes on and comes back by letter 1 alone: letter 2 stays.
        far = (tuple(((state + 1) % 300, state) for state in range(300)), (0,))
        self.assertIs(is_levelled(far), False)
        told = unlevelled(far)
        self.assertEqual(len(told), 300)
        self.assertEqual((told[0], told[1], told[299]), ((1,), (1, 1), (1,) * 299 + (2,)))


class RowTest(unittest.TestCase):

    def test_of_all_words(self):
        for machine, small, level in levelled(SMALL[::2] + GREATER + NAMED):
            letters = letters_in(machine)
            for word in words_up_to(letters, min(level + 2, 5)):
                if len(word) < level:
                    with self.assertRaises(Unfit):
                        row_of(machine, word)
                else:
                    self.assertEqual(row_of(machine, word), row_plainly(small, level, word))

    def test_a_letter_more_and_one_less(self):
        for machine, small, level in levelled(GREATER + NAMED):
            for word in words_of(letters_in(machine), min(level + 1, 4)):
                if len(word) > level:
                    row = row_of(machine, word)
                    self.assertEqual(row_of(machine, word[1:]), row[1:] + row[:1])
                if len(word) >= level:
                    ahead = tuple(small[0][state][0] for state in row_of(machine, word))
                    self.assertEqual(row_of(machine, word + (1,)), ahead)

    def test_errors_one_ahead_of_another(self):
        for machine, word, error in ((LAST, (), CanNot), (LAST, (1, 1, 1), CanNot), (LAST, (3,), CanNot),
                                     (BY_TWO, (3,), NoPlace), (BY_TWO, (1, 2, 4), NoPlace), (BY_TWO, (), Unfit),
                                     (BY_TWO, (2,), Unfit), (ODD, (1,), Unfit), (NOTHING, (), Unfit)):
            with self.assertRaises(error, msg=(machine, word)):
                row_of(machine, word)
        with self.assertRaises(NoPlace) as caught:
            row_of(BY_TWO, (1, 5, 3))
        self.assertEqual(caught.exception.place, 5)
        with self.assertRaises(NoPlace) as caught:
            row_of(BY_TWO, (0, 1))
        self.assertEqual(caught.exception.place, 0)
        self.assertEqual(row_of(NOTHING, (2,)), (0,))

    def test_long_words(self):
        self.assertEqual(row_of(BY_TWO, (1, 2) * 500 + (1,)), (1, 0))
        self.assertEqual(row_of(BY_TWO, (1, 2) * 500), (0, 2))


class LevelRowsTest(unittest.TestCase):

    def test_the_rows_of_all_words(self):
        for machine, small, level in levelled(SMALL[::2] + GREATER + NAMED):
            letters = letters_in(machine)
            if letters ** (2 * level) > 3000:
                continue
            # Twice as many letters as the level: with each row each one that a letter more leads to.
            rows = {row_plainly(small, level, word) for word in words_up_to(letters, 2 * level) if len(word) >= level}
            self.assertEqual(level_rows(machine), tuple(sorted(rows)), machine)
            self.assertEqual(fewest_rooms(machine), len(rows))

    def test_too_much_just_above_1000_rows(self):
        self.assertEqual((fewest_rooms(ring(1000)), len(made_level(ring(1000))[3])), (1000, 1000))
        for own in (level_rows, fewest_rooms, made_level):
            with self.assertRaises(TooMuch):
                own(ring(1001))
        # Of two letters there soon are many rows.
        self.assertEqual((level_of(all_words(8)), fewest_rooms(all_words(8))), (8, 800))
        for own in (level_rows, fewest_rooms, made_level):
            with self.assertRaises(TooMuch):
                own(all_words(9))


class MadeLevelTest(unittest.TestCase):

    def test_right_along_histories(self):
        for machine, _, _ in levelled(SMALL + GREATER + NAMED):
            letters = letters_in(machine)
            keeper = made_level(machine)
            self.assertIs(is_keeper(keeper), True)
            self.assertEqual(keeper[:3] + (keeper[4],), ("queue", 0, (0,) * letters, 0))
            self.assertIsNone(first_parting(keeper, machine, {1: 12, 2: 7, 3: 5, 4: 4}[letters]))
            for history in sound_histories(letters, 4)[::3] + long_histories(letters, 200, 2):
                taken = [led(machine, 0, word) in machine[1] for word in standings_plainly("queue", history)]
                self.assertEqual(answers_plainly(keeper, history), taken, (machine, history))

    def test_rooms_and_triples_as_the_document_tells_them(self):
        for machine, small, level in levelled(SMALL[::2] + GREATER + NAMED):
            letters = range(1, letters_in(machine) + 1)
            rows, table = [row_plainly(small, level, (1,) * level)], []
            for row in rows:
                triples = [(("in", letter), (), tuple(small[0][state][letter - 1] for state in row)) for letter in letters]
                triples.append((("out", 0), (), row[1:] + row[:1]))
                rows.extend(own for at, (_, _, own) in enumerate(triples)
                            if own not in rows and own not in [ahead for _, _, ahead in triples[:at]])
                table.append(tuple((heard, eye, rows.index(own)) for heard, eye, own in triples))
            expected = tuple(row[0] in small[1] for row in rows)
            self.assertEqual(made_level(machine)[3:], (expected, 0, tuple(table)), machine)

    def test_as_many_rooms_as_rows(self):
        for machine, _, _ in levelled(MACHINES):
            self.assertEqual(len(made_level(machine)[3]), fewest_rooms(machine))

    def test_no_right_keeper_has_fewer_rooms(self):
        # All keepers of one letter with two rooms: none is right for what needs three rows.
        machine = ring(3)
        self.assertEqual(fewest_rooms(machine), 3)
        for ins in itertools.product((0, 1), repeat=2):
            for went in itertools.product((0, 1), repeat=2):
                for answers in itertools.product((True, False), repeat=2):
                    table = tuple(((("in", 1), (), ins[room]), (("out", 0), (), went[room])) for room in (0, 1))
                    keeper = ("queue", 0, (0,), answers, 0, table)
                    self.assertIsNotNone(first_parting(keeper, machine, 6))


if __name__ == "__main__":
    unittest.main()
