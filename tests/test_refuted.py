"""Any keeper refuted: gonetold/refuted.py."""

import unittest

from gonetold.errors import TooMuch, Unfit
from gonetold.keepers import parts, rooms_along
from gonetold.kept import is_kept, made, why_not
from gonetold.levels import made_level
from gonetold.machines import letters_in
from gonetold.piles import bar_pile, is_kept_pile, made_pile
from gonetold.refuted import is_two_rows, refuted, two_rows
from gonetold.shown import is_kept_shown, made_shown
from gonetold.tellings import tellings
from gonetold.words import is_history, is_sound, outs, puts
from tests.oracles import (PIECES, answers_plainly, changed, is_sound_plainly, jumping, led, levelled_machines, nested,
                           ring, some_machines, standings_plainly, turning_machines)
from tests.test_keepers import rooms_plainly

LAST, SOME, ODDS = (((1, 0), (1, 0)), (1,)), (((1, 0), (1, 1)), (1,)), (((1, 0), (0, 1)), (1,))
PAIR, TWOS = (((1, 0), (2, 0), (2, 0)), (2,)), (((1, 2), (0, 0), (0, 0)), (1,))
TURNS = (((1, 1), (0, 2), (2, 0)), (0,))
# Letters 1 and 2 exchange the same states or others; 3 is the turn back of 1.
THREE = (((1, 1, 2), (2, 0, 0), (0, 2, 1)), (0,))
# All words of three letters and more come to where none leads back.
ENDING = (((1, 2), (3, 3), (3, 4), (5, 5), (5, 5), (5, 5)), (0, 4, 5))
WIDE = (((2, 1), (2, 1), (2, 3), (2, 1)), (2,))
ONES = ("queue", 0, (0, 1), (False, True), 0, (((("in", 1), (), 1), (("out", 0), (), 1)),
                                              ((("in", 1), (), 0), (("out", 0), (), 0))))
BLIND = ("queue", 0, (0, 0)) + ONES[3:]
MACHINES = ([LAST, SOME, ODDS, PAIR, TWOS, TURNS, THREE, ENDING, WIDE] + turning_machines(3, 2, 4)
            + turning_machines(4, 3, 3) + turning_machines(3, 3, 3) + levelled_machines(2, 4) + some_machines(3, 2, 8)
            + some_machines(4, 2, 6) + some_machines(4, 3, 3) + some_machines(3, 1, 4) + some_machines(5, 2, 4))


def sights_of(letters, shown):
    sights = [()]
    for at in sights:
        if len(at) < shown:
            sights.extend(at + (letter,) for letter in range(1, letters + 1))
    return sorted(sights)


def moving_keeper(mode, shown, telling, rooms, seed, left_out=0):
    """A keeper with a triple for all that it may hear and see, so that it goes on at each deed, but for some left out."""
    drawn = jumping(1000 * seed + rooms)
    heard = [("in", letter) for letter in range(1, len(telling) + 1)] + [("out", token) for token in sorted(set(telling))]
    sights = sights_of(len(telling), shown)
    table = tuple(tuple((ear, eye, drawn(rooms)) for ear in heard for eye in sights if drawn(10) >= left_out)
                  for _ in range(rooms))
    return mode, shown, telling, tuple(drawn(2) == 1 for _ in range(rooms)), drawn(rooms), table


def counting_keeper(mode, shown, telling, rooms):
    """A keeper that counts what came in less what went out, as far as it has rooms, round and round."""
    heard = [("in", letter) for letter in range(1, len(telling) + 1)] + [("out", token) for token in sorted(set(telling))]
    sights = sights_of(len(telling), shown)
    table = tuple(tuple((ear, eye, (room + (1 if ear[0] == "in" else -1)) % rooms) for ear in heard for eye in sights)
                  for room in range(rooms))
    return mode, shown, telling, tuple(room % 3 == 0 for room in range(rooms)), 0, table


def is_kept_plainly(machine, mode, shown, telling):
    if mode == "pile":
        return is_kept_pile(machine, shown, telling)
    return is_kept_shown(machine, shown) if shown else is_kept(machine, telling)


def is_two_rows_plainly(keeper, machine, thing):
    """Whether thing is two rows."""
    letters = len(keeper[2])
    if type(thing) is not tuple or len(thing) != 2:
        return False
    for history in thing:
        if type(history) is not tuple or not is_history(history) or not is_sound_plainly(history):
            return False
        if any(deed[0] == "in" and deed[1] > letters for deed in history):
            return False
    taken = [led(machine, 0, standings_plainly(keeper[0], history)[-1]) in machine[1] for history in thing]
    rooms = [rooms_plainly(keeper, history)[-1] for history in thing]
    return rooms[0] == rooms[1] and taken[0] != taken[1]


class RefutedTest(unittest.TestCase):

    def check(self, keeper, machine):
        """Run keeper along its two rows."""
        rows = two_rows(keeper, machine)
        self.assertIs(type(rows), tuple)
        self.assertEqual([is_sound_plainly(own) for own in rows], [True, True])
        self.assertIs(is_two_rows(keeper, machine, rows), True, (keeper, machine))
        self.assertEqual(rooms_along(keeper, rows[0])[-1], rooms_along(keeper, rows[1])[-1])
        answers, taken = [], []
        for own in rows:
            answers.append(answers_plainly(keeper, own)[-1] if len(own) < 200 else keeper[3][rooms_along(keeper, own)[-1]])
            taken.append(led(machine, 0, standings_plainly(keeper[0], own)[-1]) in machine[1])
        self.assertEqual(answers[0], answers[1])
        self.assertNotEqual(taken[0], taken[1])
        wrong = refuted(keeper, machine)
        self.assertIn(wrong, rows)
        self.assertIs(parts(keeper, machine, wrong), True)
        self.assertEqual(wrong, rows[answers[0] == taken[0]])

    def test_keepers_of_few_rooms_for_each_kind_of_reason_and_bar(self):
        told = {}
        for at, machine in enumerate(MACHINES):
            for mode in ("queue", "pile"):
                for shown in (0, 1, 2):
                    for telling in tellings(letters_in(machine))[::1 if shown == 0 else 3]:
                        self.few_rooms(machine, mode, shown, telling, at, told)
        self.assertEqual(set(told), {("queue", 0, "lost"), ("queue", 0, "tail"), ("queue", 0, "unlike"), ("queue", 1, "bar"),
                                     ("queue", 2, "bar"), ("pile", 0, "sink"), ("pile", 1, "sink"), ("pile", 2, "sink"),
                                     ("pile", 0, "unlike")})
        self.assertGreater(min(told.values()), 8, told)

    def few_rooms(self, machine, mode, shown, telling, seed, told):
        keepers = [moving_keeper(mode, shown, telling, rooms, seed, left_out)
                   for rooms, left_out in ((1, 0), (2, 0), (2, 5), (3, 3), (5, 0))]
        if is_kept_plainly(machine, mode, shown, telling):
            for keeper in keepers:
                for own in (two_rows, refuted):
                    with self.assertRaises(Unfit):
                        own(keeper, machine)
            return
        for keeper in keepers:
            self.check(keeper, machine)
        kind = bar_pile(machine, shown, telling)[0] if mode == "pile" else "bar"
        key = (mode, shown, why_not(machine, telling)[0] if (mode, shown) == ("queue", 0) else kind)
        told[key] = told.get(key, 0) + 1

    def test_keepers_of_many_rooms_that_go_on_at_each_deed(self):
        for machine in (LAST, SOME, ODDS, PAIR, TURNS, THREE, ENDING):
            finest = tuple(range(letters_in(machine)))
            for mode in ("queue", "pile"):
                for shown, telling in ((0, (0,) * len(finest)), (0, finest), (1, finest), (2, (0,) * len(finest))):
                    if not is_kept_plainly(machine, mode, shown, telling):
                        for rooms in (7, 30, 60):
                            self.check(moving_keeper(mode, shown, telling, rooms, rooms), machine)
                            self.check(counting_keeper(mode, shown, telling, rooms), machine)

    def test_keepers_made_for_other_machines(self):
        for keeper in (made(ODDS, (0, 1)), made(TWOS, (0, 0)), made_level(TWOS), made_shown(LAST, 1), made_shown(PAIR, 2),
                       made_pile(LAST, 1, (0, 0)), made_pile(PAIR, 2, (0, 1)), made_pile(TURNS, 0, (0, 1)),
                       made_pile(LAST, 6, (0, 0))):
            many = 0
            for machine in [own for own in MACHINES if letters_in(own) == 2]:
                if not is_kept_plainly(machine, *keeper[:3]):
                    self.check(keeper, machine)
                    many += 1
            self.assertGreater(many, 0)

    def test_a_keeper_with_one_room_and_no_triple(self):
        for mode in ("queue", "pile"):
            for shown in (0, 1, 6):
                for answer in (True, False):
                    keeper = (mode, shown, (0, 0), (answer,), 0, ((),))
                    self.check(keeper, SOME)
        self.check(("pile", 0, (0, 1), (True,), 0, ((),)), LAST)

    def test_machines_whose_blocks_are_long(self):
        # Letter 1 goes round so many states, 2 merges two of them.
        far, near = [(tuple(((state + 1) % many, 0 if state == 1 else state) for state in range(many)), (0,))
                     for many in (9, 4)]
        for rooms in (1, 5, 20):
            for shown in (0, 1, 3):
                self.check(moving_keeper("queue", shown, (0, 1), rooms, 3), far)
                self.check(moving_keeper("pile", shown, (0, 1), rooms, 3), near)


class ErrorsTest(unittest.TestCase):

    def test_unfit_if_letters_are_not_as_many_first_of_all(self):
        for keeper, machine in ((ONES, (((0,),), ())), (("pile",) + ONES[1:], ring(501)), (("pile",) + ONES[1:], ring(3))):
            for own in (two_rows, refuted):
                with self.assertRaises(Unfit):
                    own(keeper, machine)
            for thing in ((), None, (puts((1, 1)), ())):
                with self.assertRaises(Unfit):
                    is_two_rows(keeper, machine, thing)

    def test_too_much_of_piles_ahead_of_unfit(self):
        keeper = ("pile", 0, (0,), (True,), 0, ((),))
        for own in (two_rows, refuted):
            with self.assertRaises(Unfit):
                own(keeper, ring(500))
            with self.assertRaises(TooMuch):
                own(keeper, ring(501))
            # In a queue it is kept.
            with self.assertRaises(Unfit):
                own(("queue",) + keeper[1:], ring(501))
        self.assertIs(is_two_rows(keeper, ring(501), ((), puts((1,)))), True)

    def test_a_keeper_of_what_is_kept_may_have_two_rows(self):
        with self.assertRaises(Unfit):
            two_rows(BLIND, TWOS)
        self.assertIs(is_two_rows(BLIND, TWOS, (puts((2,)), ())), False)
        self.assertIs(is_two_rows(BLIND, TWOS, (puts((1, 2)), ())), False)
        self.assertIs(is_two_rows(BLIND, TWOS, (puts((1, 2)), puts((1,)))), True)


class IsTwoRowsTest(unittest.TestCase):

    def test_things_near_two_rows(self):
        for keeper, machine, value in ((ONES, LAST, (puts((1, 1)), ())), (BLIND, ODDS, (puts((2,)) + outs(1), puts((1,)))),
                                       (("pile", 1) + ONES[2:], SOME, (puts((1, 1)) + outs(1), puts((1, 2))))):
            told = 0
            for thing in (value,) + tuple(changed(value)):
                expected = is_two_rows_plainly(keeper, machine, thing)
                self.assertIs(is_two_rows(keeper, machine, thing), expected, repr(thing))
                told += expected
            self.assertGreater(told, 0)

    def test_all_pairs_of_short_histories(self):
        histories = [own for own in (puts((1,)), puts((2, 1)), outs(1), puts((1,)) + outs(1), puts((1, 2)) + outs(1), (),
                                     puts((1, 2)) + outs(2), puts((1, 1, 2)), puts((3,)), puts((1,)) + outs(2),
                                     puts((1, 1)) + outs(1) + puts((2,)))]
        told = 0
        for keeper in (ONES, BLIND, ("pile", 1) + ONES[2:], moving_keeper("pile", 2, (0, 1), 3, 1)):
            for machine in (LAST, SOME, ODDS):
                for one in histories:
                    for other in histories:
                        expected = is_two_rows_plainly(keeper, machine, (one, other))
                        self.assertIs(is_two_rows(keeper, machine, (one, other)), expected)
                        self.assertIs(is_two_rows(keeper, machine, [one, other]), False)
                        told += expected
        self.assertGreater(told, 50)

    def test_other_things(self):
        deep = tuple(nested(levels, kind) for levels in (98, 99, 100) for kind in (tuple, list))
        for thing in PIECES + deep + tuple((own, other) for own in PIECES + deep for other in ((), puts((1,)))
                                           if own != () and own != (("out",),)):
            self.assertIs(is_two_rows(ONES, LAST, thing), False)

    def test_great_things(self):
        long = puts((1, 2)) * 20000
        self.assertIs(is_sound(long), True)
        self.assertIs(is_two_rows(ONES, LAST, (long + puts((1, 1)), long)), True)
        self.assertIs(is_two_rows(ONES, LAST, (long + puts((1, 1)), long + outs(50000))), False)
        self.assertIs(is_two_rows(ONES, LAST, (long + puts((10 ** 5000,)), long)), False)


if __name__ == "__main__":
    unittest.main()
