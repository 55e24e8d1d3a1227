"""The examples of the document, word for word, section by section, and those of README.md."""

import doctest
import os
import unittest

from gonetold import errors, machines, words
from tests.examples import run_examples, steps_of

WORDS = '''
    >>> mixed = (("in", 1), ("in", 2), ("out",), ("in", 2), ("in", 3), ("out",))
    >>> is_sound(mixed), is_sound(mixed[2:]), stands("queue", mixed), stands("pile", mixed), letters_out("queue", mixed), letters_out("pile", mixed)
    (True, False, (2, 3), (1, 2), (1, 2), (2, 3))
    >>> standings("pile", mixed)
    [(), (1,), (1, 2), (1,), (1, 2), (1, 2, 3), (1, 2)]
    >>> seen("queue", (1, 2, 3), 2), seen("pile", (1, 2, 3), 2), seen("pile", (1,), 2), seen("queue", (1, 2), 0)
    ((1, 2), (2, 3), (1,), ())
    >>> heard_along("queue", 1, (0, 0, 1), mixed)
    [(('in', 1), (1,)), (('in', 2), (1,)), (('out', 0), (2,)), (('in', 2), (2,)), (('in', 3), (2,)), (('out', 0), (2,))]
    >>> heard_along("pile", 0, (0, 1, 2), mixed)[2:4], puts((2, 1)) + outs(1), histories_of(1, 3), len(histories_of(2, 4))
    ([(('out', 1), ()), (('in', 2), ())], (('in', 2), ('in', 1), ('out',)), [(('in', 1), ('in', 1), ('in', 1)), (('in', 1), ('in', 1), ('out',)), (('in', 1), ('out',), ('in', 1))], 48)
    >>> is_deed(("out", 1)), is_deed(("in", 0)), is_history([("in", 1)]), is_history((("out",),)), is_word((1, True)), is_mode("stack")
    (False, False, False, True, False, False)
    >>> stands("queue", (("out",),))
    raises Unfit()
    >>> heard_along("pile", 0, (0, 1), mixed)
    raises NoPlace(place=3)
'''

MACHINES = '''
    >>> last, odds, some = (((1, 0), (1, 0)), (1,)), (((1, 0), (0, 1)), (1,)), (((1, 0), (1, 1)), (1,))
    >>> wide = (((2, 1), (2, 1), (2, 3), (2, 1)), (2,))
    >>> least(wide) == last, are_alike(wide, last), parting_word(last, odds), takes(odds, (1, 2, 1))
    (True, True, (1, 1), False)
    >>> leads(wide, 0, (2, 1, 2)), state_behind(odds, (1, 2)), letters_in(wide)
    (3, 1, 2)
    >>> way_to(last, 1), way_back(last, 1), way_back(some, 0), leads_back(last), leads_back(some)
    ((1,), (2,), (), True, False)
    >>> [is_machine(own) for own in (last, (((1, 0),), ()), ([[0]], ()), (((0,), (0, 0)), ()), (((0,),), (0, 0)))]
    [True, False, False, False, False]
    >>> way_back(some, 1)
    raises CanNot()
    >>> takes(last, (1, 3, 4))
    raises NoPlace(place=3)
    >>> are_alike(last, (((0,),), ()))
    raises Unfit()
'''


class ExamplesTest(unittest.TestCase):

    def setUp(self):
        self.names = {}
        for module in (errors, words, machines):
            self.names.update(vars(module))

    def test_words(self):
        run_examples(self, WORDS, self.names)

    def test_machines(self):
        run_examples(self, MACHINES, self.names)

    def test_readme(self):
        readme = os.path.join(os.path.dirname(os.path.dirname(os.path.abspath(__file__))), "README.md")
        failed, tried = doctest.testfile(readme, module_relative=False)
        self.assertEqual(failed, 0)
        self.assertGreater(tried, 0)

    def test_no_example_is_lost(self):
        for text, many in ((WORDS, 8), (MACHINES, 7)):
            self.assertEqual(len([1 for _, expected in steps_of(text) if expected is not None]), many)


if __name__ == "__main__":
    unittest.main()
