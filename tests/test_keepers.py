"""Keepers: gonetold/keepers.py."""

import unittest

from gonetold.errors import NoPlace, TooMuch, Unfit
from gonetold.keepers import answer_behind, answers_along, first_parting, is_keeper, parts, rooms_along
from gonetold.kept import made
from gonetold.shown import made_shown
from gonetold.words import histories_of, outs, puts
from tests.oracles import (PIECES, answers_plainly, changed, is_sound_plainly, jumping, led, long_histories, nested,
                           some_machines, sound_histories, standings_plainly)
from tests.papers import is_keeper_plainly

LAST, ODDS, SOME = (((1, 0), (1, 0)), (1,)), (((1, 0), (0, 1)), (1,)), (((1, 0), (1, 1)), (1,))
ONES = ("queue", 0, (0, 1), (False, True), 0, (((("in", 1), (), 1), (("out", 0), (), 1)),
                                              ((("in", 1), (), 0), (("out", 0), (), 0))))
BLIND = ("queue", 0, (0, 0)) + ONES[3:]
# It goes on only by what it sees: by other sights it stays.
SEEING = ("pile", 2, (0, 0), (True, False), 1, (((("in", 2), (1, 2), 1), (("out", 0), (), 1)),
                                               ((("in", 1), (1,), 0), (("in", 1), (1, 1), 1))))
STILL = ("queue", 0, (0,), (False,), 0, ((),))


def some_keepers(mode, shown, telling, many):
    """Keepers with so many rooms and half of all triples that may be, told off by a counter that jumps about."""
    drawn, made_ones = jumping(31 + shown + len(telling) + many), []
    letters = range(1, len(telling) + 1)
    sights = [()]
    for _ in range(shown):
        sights += [own + (letter,) for own in sights for letter in letters if own + (letter,) not in sights]
    heard = [("in", letter) for letter in letters] + [("out", token) for token in sorted(set(telling))]
    for rooms in [1 + at % 4 for at in range(many)]:
        table = tuple(tuple((own, sight, drawn(rooms)) for own in sorted(heard) for sight in sorted(set(sights))
                            if drawn(2)) for _ in range(rooms))
        made_ones.append((mode, shown, telling, tuple(drawn(2) == 1 for _ in range(rooms)), drawn(rooms), table))
    return made_ones


KEEPERS = [keeper for mode in ("queue", "pile") for shown in (0, 1, 2) for telling in ((0,), (0, 0), (0, 1))
           for keeper in some_keepers(mode, shown, telling, 4)] + [ONES, BLIND, SEEING, STILL]
THREE = [keeper for mode in ("queue", "pile") for keeper in some_keepers(mode, 1, (0, 1, 0), 3)]


def rooms_plainly(keeper, history):
    """The rooms, told by the answers of the same keeper with another one in each room."""
    mode, shown, telling, answers, begin, table = keeper
    rooms = []
    for room in range(len(answers)):
        own = tuple(at == room for at in range(len(answers)))
        rooms.append(answers_plainly((mode, shown, telling, own, begin, table), history))
    return [[room for room in range(len(answers)) if rooms[room][at]][0] for at in range(len(history) + 1)]


class IsKeeperTest(unittest.TestCase):

    def test_keepers(self):
        for keeper in KEEPERS + THREE + [made(ODDS, (0, 1)), made_shown(LAST, 1)]:
            self.assertIs(is_keeper_plainly(keeper), True)
            self.assertIs(is_keeper(keeper), True)

    def test_things_near_keepers(self):
        for value in (ONES, SEEING, STILL) + tuple(KEEPERS[:50:7]):
            told = 0
            for thing in changed(value):
                expected = is_keeper_plainly(thing)
                self.assertIs(is_keeper(thing), expected, repr(thing))
                told += expected
            self.assertGreater(told, 0)

    def test_one_place_put_by_another_value(self):
        for at, good, wrong in (
                (0, ("queue", "pile"), ("stack", "", None, ("pile",), ["queue"], 0)),
                (1, (0, 1, 7, 10 ** 5000), (-1, True, False, None, "0", (0,))),
                (2, ((0,), (0, 0), (0, 1), (0, 1, 0, 2)), ((), (0, 2), (1, 0), (1,), [0, 1], (0, True), None)),
                (3, ((True, True), (False, True)), ((True,), (), (True, False, True), (0, 1), [True, False], (None, True))),
                (4, (0, 1), (2, -1, True, None, "0", (0,), 10 ** 5000)),
                (5, (((), ()), ONES[5], ONES[5][::-1]), ((), ((),), ((), (), ()), [(), ()], ((), []), ((), None), None))):
            for worth in good:
                self.assertIs(is_keeper(ONES[:at] + (worth,) + ONES[at + 1:]), True, (at, worth) if at != 1 else at)
            for worth in wrong:
                self.assertIs(is_keeper(ONES[:at] + (worth,) + ONES[at + 1:]), False, at)

    def test_one_room_with_triples(self):
        for mode, shown, telling, row, expected in (
                ("queue", 1, (0, 0), ((("in", 1), (1,), 0), (("in", 2), (1,), 0), (("out", 0), (), 0)), True),
                ("queue", 1, (0, 0), ((("in", 2), (1,), 0), (("in", 1), (1,), 0)), False),
                ("queue", 1, (0, 0), ((("out", 0), (), 0), (("in", 1), (1,), 0)), False),
                ("pile", 1, (0, 0), ((("in", 1), (1,), 0), (("in", 1), (), 0)), False),
                ("pile", 2, (0, 0), ((("in", 1), (1, 2), 0), (("in", 1), (1,), 0)), False),
                ("pile", 2, (0, 0), ((("in", 1), (), 0), (("in", 1), (1, 2), 0), (("in", 1), (2,), 0)), True),
                ("queue", 1, (0, 0), ((("in", 1), (1,), 0), (("in", 1), (1,), 0)), False),
                ("queue", 1, (0, 0), ((("in", 1), (1, 1), 0),), False), ("queue", 2, (0, 0), ((("in", 1), (1, 1), 0),), True),
                ("queue", 0, (0, 0), ((("in", 1), (1,), 0),), False), ("queue", 0, (0, 0), ((("in", 1), (), 0),), True),
                ("queue", 9, (0, 0), ((("in", 1), (3,), 0),), False), ("queue", 9, (0, 0), ((("in", 1), (0,), 0),), False),
                ("queue", 9, (0, 0), ((("in", 3), (), 0),), False), ("queue", 9, (0, 0), ((("in", 0), (), 0),), False),
                ("queue", 9, (0, 0), ((("out", 1), (), 0),), False), ("queue", 9, (0, 1), ((("out", 1), (), 0),), True),
                ("queue", 9, (0, 1), ((("out", 2), (), 0),), False), ("queue", 9, (0, 1), ((("out", -1), (), 0),), False),
                ("queue", 9, (0, 1), ((("out",), (), 0),), False), ("queue", 9, (0, 1), ((("out", True), (), 0),), False),
                ("queue", 9, (0, 1), ((("in", True), (), 0),), False), ("queue", 9, (0, 1), ((("on", 1), (), 0),), False),
                ("queue", 9, (0, 1), ((("in", 1), (), 1),), False), ("queue", 9, (0, 1), ((("in", 1), (), -1),), False),
                ("queue", 9, (0, 1), ((("in", 1), (), False),), False), ("queue", 9, (0, 1), ((("in", 1), ()),), False),
                ("queue", 9, (0, 1), ((("in", 1), (), 0, 0),), False), ("queue", 9, (0, 1), ([("in", 1), (), 0],), False),
                ("queue", 9, (0, 1), ((["in", 1], (), 0),), False), ("queue", 9, (0, 1), ((("in", 1), [], 0),), False),
                ("queue", 9, (0, 1), [(("in", 1), (), 0)], False), ("queue", 9, (0, 1), ((("in", 1), None, 0),), False),
                ("queue", 9, (0, 1), ((("in", 1, 1), (), 0),), False), ("queue", 9, (0, 1), ("in",), False)):
            keeper = (mode, shown, telling, (True,), 0, (row,))
            self.assertIs(is_keeper(keeper), expected, keeper)
            self.assertIs(is_keeper_plainly(keeper), expected, keeper)

    def test_unlike_rooms_behind_the_same(self):
        rows = (((("in", 1), (), 0), (("in", 1), (), 1)), ())
        self.assertIs(is_keeper(("queue", 0, (0,), (True, False), 0, rows)), False)

    def test_other_things(self):
        deep = tuple(nested(levels, kind) for levels in (95, 99, 100) for kind in (tuple, list))
        for thing in PIECES + deep:
            self.assertIs(is_keeper(thing), False)
        for at in range(6):
            for worth in deep:
                self.assertIs(is_keeper(ONES[:at] + (worth,) + ONES[at + 1:]), False)
        for worth in deep:
            for triple in ((worth, (), 0), (("in", worth), (), 0), (("in", 1), worth, 0), (("in", 1), (), worth)):
                self.assertIs(is_keeper(("queue", 0, (0,), (True,), 0, ((triple,),))), False)

    def test_beyond_the_bounds(self):
        row = tuple((("in", letter), (), 999) for letter in range(1, 10))
        great = ("pile", 0, tuple(range(9)), (True,) * 1000, 999, (row,) * 1000)
        self.assertIs(is_keeper(great), True)
        self.assertIs(is_keeper(great[:5] + ((row,) * 999 + (row[::-1],),)), False)
        self.assertIs(is_keeper(great[:5] + ((row,) * 999,)), False)
        self.assertIs(is_keeper(("pile", 10 ** 5000, (0,), (True,), 0, (((("in", 1), (1,) * 100000, 0),),))), True)
        self.assertIs(is_keeper(("pile", 99999, (0,), (True,), 0, (((("in", 1), (1,) * 100000, 0),),))), False)


class AlongTest(unittest.TestCase):

    def test_all_short_histories(self):
        for keeper in KEEPERS + THREE:
            letters = len(keeper[2])
            for history in sound_histories(letters, {1: 6, 2: 5, 3: 4}[letters]):
                rooms, answers = rooms_plainly(keeper, history), answers_plainly(keeper, history)
                self.assertEqual(rooms_along(keeper, history), rooms, (keeper, history))
                self.assertEqual(answers_along(keeper, history), answers)
                self.assertIs(answer_behind(keeper, history), answers[-1])

    def test_long_histories(self):
        for keeper in KEEPERS:
            for history in long_histories(len(keeper[2]), 200, 3):
                answers = answers_plainly(keeper, history)
                self.assertEqual(answers_along(keeper, history), answers)
                self.assertIs(answer_behind(keeper, history), answers[-1])

    def test_nothing_was_done(self):
        for keeper in KEEPERS:
            self.assertEqual(rooms_along(keeper, ()), [keeper[4]])
            self.assertEqual(answers_along(keeper, ()), [keeper[3][keeper[4]]])
            self.assertIs(answer_behind(keeper, ()), keeper[3][keeper[4]])

    def test_a_room_without_a_triple_is_stayed_in(self):
        self.assertEqual(rooms_along(STILL, puts((1, 1)) + outs(2)), [0] * 5)
        # It sees 1, then 1 2, then 2 2, then 2 2 again behind an out, then 2 and nothing.
        self.assertEqual(rooms_along(SEEING, puts((1, 2, 2, 2)) + outs(4)), [1, 0, 1, 1, 1, 1, 1, 1, 1])
        self.assertEqual(rooms_along(SEEING, puts((1,)) + outs(1) + puts((1, 1, 2))), [1, 0, 1, 0, 0, 1])
        self.assertEqual(rooms_along(SEEING, puts((2, 1))), [1, 1, 1])

    def test_unfit_ahead_of_no_place(self):
        for own in (rooms_along, answers_along, answer_behind):
            for history in (outs(1), puts((9,)) + outs(2), outs(1) + puts((9,)), puts((1,)) + outs(2) + puts((1,))):
                with self.assertRaises(Unfit):
                    own(ONES, history)
            for history, place in ((puts((1, 4, 3)), 4), (puts((3,)) + outs(1), 3), (puts((10 ** 30,)), 10 ** 30)):
                with self.assertRaises(NoPlace) as caught:
                    own(ONES, history)
                self.assertEqual(caught.exception.place, place)


class PartsTest(unittest.TestCase):

    def test_all_short_histories(self):
        for keeper in KEEPERS[::2] + THREE:
            letters = len(keeper[2])
            for machine in some_machines(3, letters, 2):
                for history in sound_histories(letters, 4):
                    expected = self.plainly(keeper, machine, history)
                    self.assertIs(parts(keeper, machine, history), expected)

    def plainly(self, keeper, machine, history):
        taken = led(machine, 0, standings_plainly(keeper[0], history)[-1]) in machine[1]
        return answers_plainly(keeper, history)[-1] != taken

    def test_unfit_if_letters_are_not_as_many_first_of_all(self):
        one = (((1,), (0,)), (1,))
        for history in ((), puts((1,)), outs(1), puts((3,))):
            with self.assertRaises(Unfit):
                parts(ONES, one, history)
            with self.assertRaises(Unfit):
                parts(STILL, ODDS, history)
        with self.assertRaises(Unfit):
            first_parting(ONES, one, 0)
        with self.assertRaises(Unfit):
            first_parting(STILL, ODDS, 10 ** 6)

    def test_then_unfit_then_no_place(self):
        with self.assertRaises(Unfit):
            parts(ONES, ODDS, puts((3,)) + outs(2))
        with self.assertRaises(NoPlace) as caught:
            parts(ONES, ODDS, puts((1, 4, 3)))
        self.assertEqual(caught.exception.place, 4)


class FirstPartingTest(unittest.TestCase):

    def plainly(self, keeper, machine, many):
        for length in range(many + 1):
            for history in histories_of(len(keeper[2]), length):
                taken = led(machine, 0, standings_plainly(keeper[0], history)[-1]) in machine[1]
                if answers_plainly(keeper, history)[-1] != taken:
                    return history
        return None

    def test_the_first_one(self):
        found = {}
        for keeper in KEEPERS + THREE:
            letters = len(keeper[2])
            for machine in some_machines(2, letters, 6) + some_machines(3, letters, 2):
                for many in (0, 1, 3, 4):
                    expected = self.plainly(keeper, machine, many)
                    self.assertEqual(first_parting(keeper, machine, many), expected, (keeper, machine))
                    length = None if expected is None else len(expected)
                    found[length] = found.get(length, 0) + 1
        self.assertEqual(set(found), {None, 0, 1, 2, 3, 4})

    def test_a_keeper_that_is_wrong_in_one_room_alone(self):
        for machine, telling in ((ODDS, (0, 1)), ((((1, 2), (0, 0), (0, 0)), (1,)), (0, 0))):
            keeper = made(machine, telling)
            for room in range(len(keeper[3])):
                answers = keeper[3][:room] + (not keeper[3][room],) + keeper[3][room + 1:]
                wrong = keeper[:3] + (answers,) + keeper[4:]
                self.assertEqual(first_parting(wrong, machine, 5), self.plainly(wrong, machine, 5))
            self.assertIsNone(first_parting(keeper, machine, 5))

    def test_piles(self):
        # The first one counts letters 1 by two, the second one sees the last letter: each is right.
        counting = ("pile",) + ONES[1:]
        seeing = ("pile", 1, (0, 0), (False, True), 0, (((("in", 1), (1,), 1), (("out", 0), (1,), 1)),
                                                       ((("in", 2), (2,), 0), (("out", 0), (), 0), (("out", 0), (2,), 0))))
        self.assertIsNone(first_parting(counting, ODDS, 6))
        self.assertIsNone(first_parting(seeing, LAST, 6))
        self.assertEqual(first_parting(("pile",) + BLIND[1:], ODDS, 6), puts((2,)) + outs(1))
        # Only what goes out of a pile tells these from the right ones.
        for keeper, machine in ((counting, ODDS), (seeing, LAST)):
            for room, row in enumerate(keeper[5]):
                for at in range(len(row)):
                    table = keeper[5][:room] + (row[:at] + row[at + 1:],) + keeper[5][room + 1:]
                    wrong = keeper[:5] + (table,)
                    self.assertIsNotNone(self.plainly(wrong, machine, 5))
                    self.assertEqual(first_parting(wrong, machine, 5), self.plainly(wrong, machine, 5))
        for keeper in (("queue",) + seeing[1:], ("pile", 0) + seeing[2:]):
            self.assertEqual(first_parting(keeper, LAST, 5), self.plainly(keeper, LAST, 5))
        stack = ("pile", 0, (0, 1, 2), (False, True), 0, (((("in", 3), (), 1), (("out", 2), (), 1)),
                                                         ((("in", 3), (), 0), (("out", 2), (), 0))))
        self.assertIsNone(first_parting(stack, (((0, 0, 1), (1, 1, 0)), (1,)), 5))

    def test_soundness_and_parting(self):
        for keeper in KEEPERS:
            for machine in some_machines(4, len(keeper[2]), 2):
                history = first_parting(keeper, machine, 6)
                if history is not None:
                    self.assertIs(is_sound_plainly(history), True)
                    self.assertIs(parts(keeper, machine, history), True)

    def test_too_much_just_above_the_bound(self):
        # Of one letter, in one ROOM, there are n + 1 pairs behind at most n DEEDS.
        nothing = (((0,),), ())
        self.assertIsNone(first_parting(STILL, nothing, 1999))
        for many in (2000, 2001, 10 ** 6):
            with self.assertRaises(TooMuch):
                first_parting(STILL, nothing, many)

    def test_a_history_ahead_of_too_much(self):
        # What stands is told from the others only if it has just so many letters.
        for length in (7, 1998, 1999, 2000):
            line = (tuple((min(state + 1, length + 1),) for state in range(length + 2)), (length,))
            self.assertIsNone(first_parting(STILL, line, min(length - 1, 1999)))
            if length < 2000:
                for many in (length, length + 1, 10 ** 6):
                    self.assertEqual(first_parting(STILL, line, many), puts((1,) * length))
            else:
                with self.assertRaises(TooMuch):
                    first_parting(STILL, line, length)

    def test_too_much_with_more_letters(self):
        # In one ROOM there are all WORDS of at most n letters: 1093 of three letters, n 6, and 3280, n 7.
        one_room = ("queue", 0, (0, 1, 2), (True,), 0, ((),))
        everything = (((0, 0, 0),), (0,))
        self.assertIsNone(first_parting(one_room, everything, 6))
        with self.assertRaises(TooMuch):
            first_parting(one_room, everything, 7)
        # In "pile", too; and ROOMS count for themselves.
        self.assertIsNone(first_parting(("pile",) + one_room[1:], everything, 6))
        with self.assertRaises(TooMuch):
            first_parting(("pile",) + one_room[1:], everything, 7)
        two_rooms = ("queue", 0, (0, 1, 2), (True, True), 0, (tuple((("in", letter), (), 1) for letter in (1, 2, 3)),
                                                             ((("out", 0), (), 0),)))
        with self.assertRaises(TooMuch):
            first_parting(two_rooms, everything, 8)

    def test_none_of_no_deed(self):
        self.assertIsNone(first_parting(ONES, ODDS, 0))
        self.assertEqual(first_parting(ONES, (((0, 0),), (0,)), 0), ())


if __name__ == "__main__":
    unittest.main()
