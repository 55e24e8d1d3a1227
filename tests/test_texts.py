"""Texts: gonetold/texts.py."""

import re
import unittest

from gonetold.errors import BadText
from gonetold.kept import made
from gonetold.levels import made_level
from gonetold.piles import made_pile
from gonetold.shown import made_shown
from gonetold.texts import (history_read, history_text, keeper_read, keeper_text, machine_read, machine_text,
                            telling_read, telling_text, word_read, word_text)
from gonetold.tellings import tellings
from gonetold.words import histories_of, outs, puts
from tests.oracles import levelled_machines, lists_all_through, ring, some_machines, turning_machines, words_up_to
from tests.papers import is_telling_plainly
from tests.test_refuted import counting_keeper, moving_keeper

NUMBER = "(?:0|[1-9][0-9]{0,11})"
LETTER = "[1-9][0-9]{0,11}"
LAST, ODDS = (((1, 0), (1, 0)), (1,)), (((1, 0), (0, 1)), (1,))
MACHINES = ([LAST, ODDS, (((0,),), ()), (((0,),), (0,)), (((0, 0, 0),), ()), ring(12)] + some_machines(3, 2, 6)
            + some_machines(4, 4, 2) + turning_machines(3, 3, 2))
WORDS = words_up_to(3, 3) + [(4,) * 60, (12, 1, 999999999999)]
HISTORIES = [own for many in range(4) for own in histories_of(2, many)] + [outs(3), outs(1) + puts((3,)), puts((10,)) * 90]
TELLINGS = [own for many in range(1, 5) for own in tellings(many)] + [tuple(range(12))]
KEPT = ("pile", 1, (0, 0), (True, False), 0, (((("in", 1), (1,), 1), (("out", 0), (), 0)), ()))
KEEPERS = [KEPT, ("queue", 0, (0,), (False,), 0, ((),)), made(ODDS, (0, 1)), made_pile(LAST, 1, (0, 0)),
           made_pile(LAST, 3, (0, 1)), made_shown(LAST, 1), made_level(ring(3)), counting_keeper("pile", 2, (0, 1), 3),
           moving_keeper("queue", 2, (0, 0, 1), 4, 1, 5), moving_keeper("pile", 6, (0,), 12, 2, 3),
           ("queue", 999999999999, (0, 1), (True, True), 1, ((), (((("out", 1), (2, 1, 2), 0)),)))]
PAIRS = ((machine_text, machine_read, MACHINES), (telling_text, telling_read, TELLINGS), (word_text, word_read, WORDS),
         (history_text, history_read, HISTORIES), (keeper_text, keeper_read, KEEPERS))


def numbers(line):
    return [int(own) for own in re.findall("[0-9]+", line)]


def wrong_line(lines, fits):
    """The number of the first line that does not fit those ahead of it, or None."""
    return next((at + 1 for at, line in enumerate(lines) if not fits(lines[:at], line)), None)


def machine_line(ahead, line):
    if not ahead:
        return line == "machine"
    if not re.fullmatch(f"(state|end)( {NUMBER})+", line):
        return False
    return len(ahead) == 1 or len(numbers(line)) == len(numbers(ahead[1]))


def machine_wants(lines):
    return len(lines) < 2 or max(own for line in lines[1:] for own in numbers(line)) >= len(lines) - 1


def telling_line(ahead, line):
    return not ahead and bool(re.fullmatch(f"telling( {NUMBER})+", line)) and is_telling_plainly(tuple(numbers(line)))


def word_line(ahead, line):
    return not ahead and bool(re.fullmatch(f"word( {LETTER})*", line))


def history_line(ahead, line):
    return not ahead and bool(re.fullmatch(f"history( (-|{LETTER}))*", line))


def one_wants(lines):
    return not lines


def triple_of(line):
    """The heard and seen of a line of a triple."""
    kind, rest = line.split(" ", 1)
    told = numbers(rest)
    return (kind, told[0]), tuple(told[1:-1])


def keeper_line(ahead, line):
    if not ahead:
        return bool(re.fullmatch(f"keeper (queue|pile) {NUMBER} {NUMBER}", line))
    if len(ahead) == 1:
        return telling_line((), line)
    if line in ("yes", "no"):
        return True
    if len(ahead) == 2 or not re.fullmatch(f"(in {LETTER}|out {NUMBER})( {LETTER})* to {NUMBER}", line):
        return False
    heard, sight = triple_of(line)
    telling, shown = numbers(ahead[1]), numbers(ahead[0])[0]
    if len(sight) > shown or max(sight, default=1) > len(telling):
        return False
    if heard[1] not in (range(1, len(telling) + 1) if heard[0] == "in" else telling):
        return False
    return ahead[-1] in ("yes", "no") or triple_of(ahead[-1]) < (heard, sight)


def keeper_wants(lines):
    rooms = len([line for line in lines if line in ("yes", "no")])
    told = [numbers(lines[0])[1]] if lines else []
    told += [numbers(line)[-1] for line in lines[2:] if line not in ("yes", "no")]
    return rooms == 0 or max(told) >= rooms


LINES = {machine_read: (machine_line, machine_wants), telling_read: (telling_line, one_wants),
         word_read: (word_line, one_wants), history_read: (history_line, one_wants),
         keeper_read: (keeper_line, keeper_wants)}


def bad_line(reader, text):
    """The first line with which no text goes on, told plainly, or None if the text is whole."""
    fits, wants = LINES[reader]
    lines = text.split("\n") if text != "" else []
    wrong = wrong_line(lines, fits)
    if wrong is not None:
        return wrong
    return len(lines) + 1 if wants(lines) else None


def bent_texts(text):
    """Texts with one sign put in, left out, put by another one or twice; with one line left out, twice or turned."""
    signs = " \n0129-xs\t"
    for at in range(len(text) + 1):
        for sign in signs:
            yield text[:at] + sign + text[at:]
            yield text[:at] + sign + text[at + 1:]
        yield text[:at] + text[at + 1:]
        yield text[:at] + text[at:at + 2][::-1] + text[at + 2:]
        yield text[:at]
    lines = text.split("\n")
    for at in range(len(lines)):
        yield "\n".join(lines[:at] + lines[at + 1:])
        yield "\n".join(lines[:at + 1] + lines[at:])
        yield "\n".join(lines[:at] + lines[at:at + 2][::-1] + lines[at + 2:])
        yield "\n".join(lines[:at] + [lines[at][::-1]] + lines[at + 1:])
        for own in ("yes", "no", "state 0", "end 1 0", "machine", "telling 0", "in 1 to 0", "out 0 to 0", "", " ", "word"):
            yield "\n".join(lines[:at] + [own] + lines[at + 1:])
            yield "\n".join(lines[:at] + [own] + lines[at:])


class TextsTest(unittest.TestCase):

    def check(self, writer, reader, text):
        """Check that reader gives what has just this text, or tells the first line that goes wrong."""
        line = bad_line(reader, text)
        if line is None:
            value = reader(text)
            self.assertEqual(writer(value), text)
            return value
        with self.assertRaises(BadText, msg=(reader, text)) as caught:
            reader(text)
        self.assertEqual(caught.exception.line, line, (reader, text))
        return None

    def test_each_reader_gives_back_what_each_writer_wrote(self):
        for writer, reader, values in PAIRS:
            for value in values:
                text = writer(value)
                self.assertEqual(repr(reader(text)), repr(value))
                self.assertEqual(writer(lists_all_through(value)), text)
                self.assertIsNone(bad_line(reader, text))

    def test_texts_bent_in_one_place(self):
        for writer, reader, values in PAIRS:
            told = {True: 0, False: 0}
            short = [value for value in values if len(writer(value)) < 160]
            for value in short[::max(1, len(short) // 5)]:
                for text in bent_texts(writer(value)):
                    told[self.check(writer, reader, text) is not None] += 1
            self.assertGreater(min(told.values()), 20, (writer, told))

    def test_texts_of_others(self):
        for writer, _, values in PAIRS:
            for own, reader, _ in PAIRS:
                if own != writer:
                    for value in values[:20]:
                        self.check(own, reader, writer(value))

    def test_a_text_cut_behind_each_line(self):
        for writer, reader, values in PAIRS:
            for value in values:
                lines = writer(value).split("\n")
                for at in range(len(lines)):
                    self.check(writer, reader, "\n".join(lines[:at]))
                    self.check(writer, reader, "\n".join(lines[:at]) + "\n")
                self.check(writer, reader, "\n".join(lines + lines))

    def test_lines_by_hand(self):
        for reader, text, line in (
                (machine_read, "", 1), (machine_read, "\n", 1), (machine_read, "machine", 2), (machine_read, "machine\n", 2),
                (machine_read, "machine\nstate", 2), (machine_read, "machine\nstate 0\n", 3), (machine_read, "machine\nstate 1", 3),
                (machine_read, "machine\nstate 999999999999", 3), (machine_read, "machine\nstate 9999999999999", 2),
                (machine_read, "machine\nstate 0\nend 0 0", 3), (machine_read, "machine\nstate 00", 2),
                (machine_read, "machine\nstate  0", 2), (machine_read, "machine\n state 0", 2), (machine_read, "machine\nstate 0 ", 2),
                (machine_read, "machine \nstate 0", 1), (machine_read, "Machine\nstate 0", 1), (machine_read, "machine\nends 0", 2),
                (machine_read, "machine\nstate -1", 2), (machine_read, "machine\nstate +0", 2), (machine_read, "machine\nstate 0_0", 2),
                (machine_read, "machine\nstate \u0660", 2), (machine_read, "machine\nstate \u00b2", 2),
                (machine_read, "machine\rstate 0", 1), (machine_read, "machine\r\nstate 0", 1), (machine_read, "machine\u2028state 0", 1),
                (machine_read, "machine\nstate 3\nstate 0\nstate 0 0", 4), (machine_read, "machine\nstate 5\nend 0\nend 0\nstate 0", 6),
                (telling_read, "", 1), (telling_read, "telling", 1), (telling_read, "telling 1", 1), (telling_read, "telling 0 2", 1),
                (telling_read, "telling 0\n", 2), (telling_read, "telling 0\ntelling 0", 2), (telling_read, "telling 0 01", 1),
                (telling_read, "telling 0 2\n\n", 1), (word_read, "", 1), (word_read, "word 0", 1), (word_read, "word 1 0", 1),
                (word_read, "word ", 1), (word_read, "word\n", 2), (word_read, "word 1000000000000", 1), (word_read, "words", 1),
                (word_read, "word 1\n2", 2), (word_read, "word1", 1), (word_read, " word 1", 1),
                (history_read, "history 0", 1), (history_read, "history --", 1), (history_read, "history -\n", 2),
                (history_read, "history - -1", 1), (history_read, "history out", 1), (history_read, "", 1), (history_read, "history  -", 1),
                (keeper_read, "", 1), (keeper_read, "keeper queue 0", 1), (keeper_read, "keeper stack 0 0", 1),
                (keeper_read, "keeper queue 0 0", 2), (keeper_read, "keeper queue 0 0\ntelling", 2),
                (keeper_read, "keeper queue 0 0\ntelling 0", 3), (keeper_read, "keeper queue 0 1\ntelling 0\nyes", 4),
                (keeper_read, "keeper queue 0 0\ntelling 0\nin 1 to 0", 3), (keeper_read, "keeper queue 0 0\ntelling 0\nyes no", 3),
                (keeper_read, "keeper queue 0 0\ntelling 0\nyes\nin 2 to 0", 4), (keeper_read, "keeper queue 0 0\ntelling 0\nyes\nin 1 1 to 0", 4),
                (keeper_read, "keeper queue 0 0\ntelling 0\nyes\nout 1 to 0", 4), (keeper_read, "keeper queue 0 0\ntelling 0\nyes\nin 1 to 1", 5),
                (keeper_read, "keeper queue 0 0\ntelling 0\nyes\nin 1 to 1\nno\nno\nin 1 to 3", 8),
                (keeper_read, "keeper queue 0 0\ntelling 0\nyes\nout 0 to 0\nin 1 to 0", 5),
                (keeper_read, "keeper queue 0 0\ntelling 0\nyes\nin 1 to 0\nin 1 to 0", 5),
                (keeper_read, "keeper queue 1 1\ntelling 0\nyes\nin 1 to 0\nin 1 to 1", 5),
                (keeper_read, "keeper queue 1 0\ntelling 0\nyes\nin 1 1 to 0\nin 1 to 0", 5),
                (keeper_read, "keeper queue 1 0\ntelling 0\nyes\nin 1 2 to 0", 4), (keeper_read, "keeper queue 1 0\ntelling 0\nyes\nin 1 0 to 0", 4),
                (keeper_read, "keeper queue 1 0\ntelling 0\nyes\nin 0 to 0", 4), (keeper_read, "keeper queue 0 0\ntelling 0\nyes\nin to 0", 4),
                (keeper_read, "keeper queue 0 0\ntelling 0\nyes\nout to 0", 4), (keeper_read, "keeper queue 0 0\ntelling 0\nyes\nout 0 0", 4),
                (keeper_read, "keeper queue 0 0\ntelling 0\nyes\nin 1 0", 4), (keeper_read, "keeper queue 0 0\ntelling 0\nyes\n", 4),
                (keeper_read, "keeper queue 0 999999999999\ntelling 0\nyes", 4), (keeper_read, "keeper queue 1000000000000 0\ntelling 0\nyes", 1),
                (keeper_read, "keeper queue 0 0\ntelling 0 1\nyes\nout 1 to 0\nout 0 to 0", 5)):
            self.assertEqual(bad_line(reader, text), line, text)
            with self.assertRaises(BadText, msg=text) as caught:
                reader(text)
            self.assertEqual((caught.exception.line, vars(caught.exception)), (line, {"line": line}), text)

    def test_whole_texts_by_hand(self):
        for reader, text, value in (
                (machine_read, "machine\nend 0 0 0", (((0, 0, 0),), (0,))), (word_read, "word 999999999999", (999999999999,)),
                (telling_read, "telling 0", (0,)), (history_read, "history", ()), (history_read, "history - - 1", outs(2) + puts((1,))),
                (keeper_read, "keeper queue 0 1\ntelling 0\nno\nyes", ("queue", 0, (0,), (False, True), 1, ((), ()))),
                (keeper_read, "keeper pile 2 0\ntelling 0 0\nno\nin 1 1 2 to 0\nin 1 2 to 0\nout 0 to 0\nout 0 1 to 0",
                 ("pile", 2, (0, 0), (False,), 0, (((("in", 1), (1, 2), 0), (("in", 1), (2,), 0), (("out", 0), (), 0),
                                                    (("out", 0), (1,), 0)),)))):
            self.assertEqual(repr(reader(text)), repr(value))

    def test_any_string(self):
        for text in ("", " ", "\n", "\n\n", "-", "0", "keeper", "machine\x00", "\ud800", "a" * 100000, "\n" * 1000,
                     "word" + " 1" * 50000, "word 1" + "\n" * 50000):
            for writer, reader, _ in PAIRS:
                self.check(writer, reader, text)


if __name__ == "__main__":
    unittest.main()
