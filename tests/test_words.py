"""Words and histories: gonetold/words.py."""

import unittest

from gonetold.errors import NoPlace, Unfit
from gonetold.words import (heard_along, histories_of, is_sound, letters_out, outs, puts, seen, standings, stands)
from tests.oracles import histories_up_to, is_sound_plainly, standings_plainly, words_up_to

MODES = ("queue", "pile")
ALL = histories_up_to(2, 6)
SOUND = [history for history in ALL if is_sound_plainly(history)]
MIXED = (("in", 1), ("in", 2), ("out",), ("in", 2), ("in", 3), ("out",))
UNSOUND = ((("out",),), (("in", 1), ("out",), ("out",)), (("out",), ("in", 1)),
           (("in", 1), ("out",), ("out",), ("in", 1), ("in", 1)))


class SoundTest(unittest.TestCase):

    def test_all_short_histories(self):
        for history in ALL:
            self.assertIs(is_sound(history), is_sound_plainly(history), history)

    def test_edges(self):
        self.assertIs(is_sound(()), True)
        for history in UNSOUND:
            self.assertIs(is_sound(history), False, history)
        self.assertIs(is_sound(puts((1,) * 300) + outs(300)), True)
        self.assertIs(is_sound(puts((1,) * 300) + outs(301)), False)


class PutsTest(unittest.TestCase):

    def test_puts(self):
        self.assertEqual(puts(()), ())
        self.assertEqual(puts((3,)), (("in", 3),))
        self.assertEqual(puts((2, 1, 2)), (("in", 2), ("in", 1), ("in", 2)))

    def test_outs(self):
        self.assertEqual(outs(0), ())
        self.assertEqual(outs(1), (("out",),))
        self.assertEqual(outs(3), (("out",), ("out",), ("out",)))

    def test_no_fewer_deeds_leave_a_word(self):
        for word in words_up_to(2, 4):
            for mode in MODES:
                self.assertEqual(stands(mode, puts(word)), word)
                for history in SOUND:
                    if len(history) < len(word):
                        self.assertNotEqual(stands(mode, history), word)


class StandsTest(unittest.TestCase):

    def test_all_short_histories(self):
        for mode in MODES:
            for history in SOUND:
                plainly = standings_plainly(mode, history)
                self.assertEqual(standings(mode, history), plainly, history)
                self.assertEqual(stands(mode, history), plainly[-1], history)

    def test_as_many_stand_as_came_in_less_those_that_went_out(self):
        for history in SOUND:
            outs_in_it = history.count(("out",))
            for mode in MODES:
                self.assertEqual(len(stands(mode, history)), len(history) - 2 * outs_in_it)

    def test_what_came_in_is_what_went_and_what_stands_in_a_queue(self):
        for history in SOUND:
            came = tuple(deed[1] for deed in history if deed[0] == "in")
            self.assertEqual(letters_out("queue", history) + stands("queue", history), came)

    def test_puts_and_as_many_outs_leave_what_stood_in_a_pile(self):
        for history in SOUND:
            for word in ((), (1,), (2, 1), (1, 1, 2)):
                longer = history + puts(word) + outs(len(word))
                self.assertEqual(stands("pile", longer), stands("pile", history))
                self.assertEqual(letters_out("pile", longer), letters_out("pile", history) + word[::-1])

    def test_letters_out(self):
        for mode in MODES:
            for history in SOUND:
                rows = standings_plainly(mode, history)
                at_end = 0 if mode == "queue" else -1
                went = tuple(rows[at][at_end] for at, deed in enumerate(history) if deed == ("out",))
                self.assertEqual(letters_out(mode, history), went)

    def test_nothing_was_done(self):
        for mode in MODES:
            self.assertEqual(stands(mode, ()), ())
            self.assertEqual(standings(mode, ()), [()])
            self.assertEqual(letters_out(mode, ()), ())
            self.assertEqual(heard_along(mode, 0, (0,), ()), [])

    def test_unfit_if_not_sound(self):
        for mode in MODES:
            for history in UNSOUND:
                for own in (stands, standings, letters_out):
                    with self.assertRaises(Unfit):
                        own(mode, history)

    def test_long_histories(self):
        word = tuple(1 + at % 3 for at in range(20000))
        history = puts(word) + outs(10000)
        self.assertEqual(stands("queue", history), word[10000:])
        self.assertEqual(stands("pile", history), word[:10000])
        self.assertEqual(letters_out("queue", history), word[:10000])
        self.assertEqual(letters_out("pile", history), word[:9999:-1])


class SeenTest(unittest.TestCase):

    def test_each_number_shown(self):
        word = (1, 2, 3, 1)
        self.assertEqual([seen("queue", word, shown) for shown in range(7)],
                         [(), (1,), (1, 2), (1, 2, 3), word, word, word])
        self.assertEqual([seen("pile", word, shown) for shown in range(7)],
                         [(), (1,), (3, 1), (2, 3, 1), word, word, word])

    def test_nothing_stands(self):
        for mode in MODES:
            self.assertEqual([seen(mode, (), shown) for shown in (0, 1, 6)], [(), (), ()])

    def test_one_letter(self):
        for mode in MODES:
            self.assertEqual([seen(mode, (2,), shown) for shown in (0, 1, 2, 100)], [(), (2,), (2,), (2,)])


class HeardAlongTest(unittest.TestCase):

    def test_all_short_histories(self):
        for mode in MODES:
            for telling in ((0, 0), (0, 1)):
                for shown in (0, 1, 2, 5):
                    for history in SOUND:
                        self.assertEqual(heard_along(mode, shown, telling, history),
                                         self.plainly(mode, shown, telling, history))

    def plainly(self, mode, shown, telling, history):
        rows = standings_plainly(mode, history)
        pairs = []
        for at, deed in enumerate(history):
            gone = rows[at][0 if mode == "queue" else -1] if deed == ("out",) else None
            heard = deed if gone is None else ("out", telling[gone - 1])
            row = rows[at + 1]
            end = row[:shown] if mode == "queue" else row[::-1][:shown][::-1]
            pairs.append((heard, end))
        return pairs

    def test_the_letter_that_the_telling_has_not(self):
        for history, telling, place in ((MIXED, (0, 1), 3), (MIXED, (0,), 2), (puts((1, 4, 3)), (0, 0), 4),
                                        (puts((3,)) + outs(1), (0, 1), 3)):
            for mode in MODES:
                with self.assertRaises(NoPlace) as caught:
                    heard_along(mode, 1, telling, history)
                self.assertEqual(caught.exception.place, place)

    def test_unfit_ahead_of_no_place(self):
        for mode in MODES:
            for history in (puts((9,)) + outs(2), outs(1) + puts((9,))):
                with self.assertRaises(Unfit):
                    heard_along(mode, 0, (0,), history)

    def test_seen_behind_the_deed(self):
        self.assertEqual(heard_along("pile", 2, (0, 0, 1), puts((3, 1, 2)) + outs(2)),
                         [(("in", 3), (3,)), (("in", 1), (3, 1)), (("in", 2), (1, 2)),
                          (("out", 0), (3, 1)), (("out", 0), (3,))])
        self.assertEqual(heard_along("queue", 2, (0, 0, 1), puts((3, 1, 2)) + outs(2)),
                         [(("in", 3), (3,)), (("in", 1), (3, 1)), (("in", 2), (3, 1)),
                          (("out", 1), (1, 2)), (("out", 0), (2,))])

    def test_long_histories(self):
        word = (1, 2) * 5000
        for mode in MODES:
            pairs = heard_along(mode, 2, (0, 1), puts(word) + outs(10000))
            self.assertEqual(len(pairs), 20000)
            self.assertEqual(pairs[-1][1], ())


class HistoriesOfTest(unittest.TestCase):

    def test_just_the_sound_ones_ascending(self):
        for letters in (1, 2, 3):
            for many in range(6 if letters == 3 else 7):
                plainly = sorted(history for history in histories_up_to(letters, many)
                                 if len(history) == many and is_sound_plainly(history))
                self.assertEqual(histories_of(letters, many), plainly)

    def test_no_deed(self):
        self.assertEqual(histories_of(1, 0), [()])
        self.assertEqual(histories_of(3, 0), [()])

    def test_one_deed(self):
        self.assertEqual(histories_of(3, 1), [(("in", 1),), (("in", 2),), (("in", 3),)])

    def test_the_bounds(self):
        found = histories_of(3, 6)
        self.assertEqual(found, sorted(set(found)))
        # Of 6 deeds with j outs, as many orders as a ballot count gives, each with 3 ^ (6 - j) words.
        self.assertEqual(len(found), 1 * 3 ** 6 + 5 * 3 ** 5 + 9 * 3 ** 4 + 5 * 3 ** 3)


if __name__ == "__main__":
    unittest.main()
