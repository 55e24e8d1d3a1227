"""The functions with a parameter called thing."""

import re
import unittest

from gonetold.machines import is_machine
from gonetold.words import is_deed, is_history, is_mode, is_word
from tests.oracles import PIECES, changed, nested

LETTER = "[1-9][0-9]*"
DEED = rf"(\('in', {LETTER}\)|\('out',\))"


def row_of(own):
    """The pattern of the text of a tuple, maybe (), of such."""
    return rf"\(\)|\({own},\)|\({own}(, {own})+\)"


# The text of a value tells its kinds apart: True from 1, a list from a tuple, "1" from 1.
PATTERNS = (
    (is_word, re.compile(row_of(LETTER))),
    (is_deed, re.compile(DEED)),
    (is_history, re.compile(row_of(DEED))),
    (is_mode, re.compile("'queue'|'pile'")),
)


def is_number(thing):
    return type(thing) is int


def is_machine_plainly(thing):
    if type(thing) is not tuple or len(thing) != 2 or [type(own) for own in thing] != [tuple, tuple]:
        return False
    steps, ends = thing
    if steps == () or [own for own in steps if type(own) is not tuple]:
        return False
    targets = [state for row in steps for state in row]
    if [own for own in targets + list(ends) if type(own) is not int or own not in range(len(steps))]:
        return False
    return {len(row) for row in steps} in [{many} for many in range(1, 200)] and list(ends) == sorted(set(ends))


WORDS = ((), (1,), (3, 1, 2), (1, 1))
HISTORIES = ((), (("out",),), (("in", 1),), (("in", 2), ("out",), ("in", 13)), (("out",), ("out",), ("in", 1)))
MACHINES = ((((0,),), ()), (((0,),), (0,)), (((1, 0), (0, 1)), (1,)), (((1, 0, 2), (2, 2, 0), (0, 1, 1)), (0, 2)))


class ThingsTest(unittest.TestCase):

    def check(self, own, thing, expected, shown=True):
        answer = own(thing)
        self.assertIs(answer, expected, (own.__name__, repr(thing) if shown else "a great one"))

    def test_each_value_and_each_one_changed_at_one_place(self):
        for value in WORDS + HISTORIES + (("in", 1), ("in", 9), ("out",), "queue", "pile") + MACHINES:
            for thing in (value, *changed(value)):
                for own, pattern in PATTERNS:
                    self.check(own, thing, pattern.fullmatch(repr(thing)) is not None)
                self.check(is_machine, thing, is_machine_plainly(thing))

    def test_the_values_are_what_they_are(self):
        for own, values in ((is_word, WORDS), (is_history, HISTORIES), (is_machine, MACHINES),
                            (is_deed, (("in", 1), ("in", 9), ("out",))), (is_mode, ("queue", "pile"))):
            for value in values:
                self.check(own, value, True)
                if isinstance(value, tuple):
                    self.check(own, list(value), False)

    def test_pieces_by_hand(self):
        true = {is_word: ((), (1,)), is_deed: (("in", 1), ("out",)), is_history: ((), (("out",),)),
                is_mode: ("queue", "pile"), is_machine: ()}
        for own, expected in true.items():
            told = [thing for thing in PIECES if own(thing)]
            self.assertEqual([repr(thing) for thing in told if thing in expected], [repr(thing) for thing in told])
            self.assertEqual(len(told), len(expected), own.__name__)

    def test_true_and_false_are_no_numbers(self):
        for own, thing in ((is_word, (True,)), (is_word, (1, True)), (is_deed, ("in", True)),
                           (is_history, (("in", True),)), (is_machine, (((False,),), ())),
                           (is_machine, (((0,),), (False,))), (is_machine, (((0, 1), (1, True)), ()))):
            self.check(own, thing, False)

    def test_a_letter_is_from_1_and_a_deed_is_whole(self):
        for thing in ((0,), (-1,), (1, 0), ("1",), (None,), ((1,),)):
            self.check(is_word, thing, False)
        for thing in ((), ("in",), ("in", 0), ("in", -1), ("in", 1, 1), ("out", 1), ("out", ()), ("go",), ("in", "1"),
                      ("in", (1,)), (("in", 1),), "in", "out", None, (("out",),), ("out", "out")):
            self.check(is_deed, thing, False)
        for thing in ("stack", "Queue", "", " queue", "queue ", ("queue",), ["pile"], None, 0, "queuepile", "pil"):
            self.check(is_mode, thing, False)

    def test_machines_with_one_thing_wrong(self):
        for thing in ((), ((),), ((), ()), (((),), ()), (((), ()), ()), (((0,),),), (((0,),), (), ()), (((1,),), ()),
                      (((-1,),), ()), (((0,),), (1,)), (((0,),), (-1,)), (((0,), (0, 0)), ()), (((0, 0), (0,)), ()),
                      (((0,), (0,)), (1, 0)), (((0,), (0,)), (0, 0)), (((0,), (0,)), (1, 1)), (((0,), [0]), ()),
                      ([(0,)], ()), (((0,),), []), [((0,),), ()], (((0,),), None), (None, ()), (((None,),), ()),
                      (((0,),), 0), (0, 0), ("0", ""), ((0,), ()), ((((0,),),), ()), (((0,), ()), ()), "machine"):
            self.check(is_machine, thing, False)

    def test_a_history_need_not_be_sound(self):
        for thing in ((("out",),), (("in", 1), ("out",), ("out",)), (("out",), ("in", 1))):
            self.check(is_history, thing, True)

    def test_beyond_the_bounds(self):
        for own, thing in ((is_word, (5, 10 ** 40)), (is_word, (1,) * 100000), (is_deed, ("in", 10 ** 5000)),
                           (is_history, (("in", 7), ("out",)) * 50000),
                           (is_machine, (tuple((state,) * 9 for state in range(3000)), tuple(range(3000))))):
            self.check(own, thing, True, shown=False)
        for own, thing in ((is_word, (1,) * 100000 + (0,)), (is_word, (-(10 ** 5000),)),
                           (is_history, (("in", 7), ("out",)) * 50000 + (("in",),)),
                           (is_machine, (((10 ** 5000,),), ())), (is_mode, "queue" * 100000),
                           (is_machine, (tuple((state,) * 9 for state in range(3000)), (2999, 2998)))):
            self.check(own, thing, False, shown=False)

    def test_one_hundred_levels_deep(self):
        deep = [nested(levels, kind, inside) for levels in (99, 100) for kind in (tuple, list)
                for inside in ((), [], (1,), ("out",))]
        for own in (is_word, is_deed, is_history, is_mode, is_machine):
            for thing in deep:
                self.check(own, thing, False)
        for own, thing in ((is_word, (1, nested(99, tuple))), (is_deed, ("in", nested(99, list))),
                           (is_history, (("out",), nested(99, tuple))), (is_machine, (((nested(97, tuple),),), ())),
                           (is_machine, (((0,),), nested(99, tuple)))):
            self.check(own, thing, False)

    def test_things_are_not_changed(self):
        for thing in ([[1], [2, [3]]], (([0],), []), [("in", 1)], [("out",)]):
            text = repr(thing)
            for own in (is_word, is_deed, is_history, is_mode, is_machine):
                own(thing)
            self.assertEqual(repr(thing), text)


if __name__ == "__main__":
    unittest.main()
