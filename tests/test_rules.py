"""What holds of every function, and the names and arguments of the interface."""

import copy
import inspect
import re
import unittest

from gonetold import errors, machines, words
from gonetold.errors import CanNot, NoPlace, Unfit
from tests.oracles import lists_all_through

INTERFACE = {
    words: """is_word(thing), is_deed(thing), is_history(thing), is_mode(thing), is_sound(history), puts(word),
        outs(many), stands(mode, history), standings(mode, history), letters_out(mode, history),
        seen(mode, word, shown), heard_along(mode, shown, telling, history), histories_of(letters, many)""",
    machines: """is_machine(thing), letters_in(machine), leads(machine, state, word), state_behind(machine, word),
        takes(machine, word), least(machine), are_alike(one, other), parting_word(one, other),
        way_to(machine, state), way_back(machine, state), leads_back(machine)""",
}

SIGNATURE = r"(\w+)\(([^)]*)\)"

MIXED = (("in", 1), ("in", 2), ("out",), ("in", 2), ("in", 3), ("out",))
LAST, ODDS, SOME = (((1, 0), (1, 0)), (1,)), (((1, 0), (0, 1)), (1,)), (((1, 0), (1, 1)), (1,))
WIDE = (((2, 1), (2, 1), (2, 3), (2, 1)), (2,))

CALLS = (
    (words.is_sound, {"history": MIXED}), (words.is_sound, {"history": MIXED[2:]}),
    (words.puts, {"word": (2, 1, 3)}), (words.puts, {"word": ()}), (words.outs, {"many": 3}),
    (words.stands, {"mode": "queue", "history": MIXED}), (words.stands, {"mode": "pile", "history": MIXED}),
    (words.standings, {"mode": "queue", "history": MIXED}), (words.standings, {"mode": "pile", "history": MIXED}),
    (words.letters_out, {"mode": "queue", "history": MIXED}), (words.letters_out, {"mode": "pile", "history": MIXED}),
    (words.seen, {"mode": "queue", "word": (1, 2, 3), "shown": 2}),
    (words.seen, {"mode": "pile", "word": (1, 2, 3), "shown": 2}),
    (words.seen, {"mode": "pile", "word": (1, 2, 3), "shown": 9}),
    (words.heard_along, {"mode": "queue", "shown": 1, "telling": (0, 0, 1), "history": MIXED}),
    (words.heard_along, {"mode": "pile", "shown": 2, "telling": (0, 1, 2), "history": MIXED}),
    (words.histories_of, {"letters": 2, "many": 3}),
    (machines.letters_in, {"machine": WIDE}), (machines.leads, {"machine": WIDE, "state": 0, "word": (2, 1, 2)}),
    (machines.state_behind, {"machine": ODDS, "word": (1, 2)}), (machines.takes, {"machine": ODDS, "word": (1, 2)}),
    (machines.least, {"machine": WIDE}), (machines.least, {"machine": ODDS}),
    (machines.are_alike, {"one": WIDE, "other": LAST}), (machines.are_alike, {"one": ODDS, "other": LAST}),
    (machines.parting_word, {"one": LAST, "other": ODDS}), (machines.way_to, {"machine": LAST, "state": 1}),
    (machines.way_back, {"machine": LAST, "state": 1}), (machines.leads_back, {"machine": SOME}),
)

REFUSED = (
    (words.stands, {"mode": "queue", "history": (("out",),)}, Unfit()),
    (words.standings, {"mode": "pile", "history": (("out",),)}, Unfit()),
    (words.letters_out, {"mode": "pile", "history": (("out",),)}, Unfit()),
    (words.heard_along, {"mode": "pile", "shown": 0, "telling": (0, 1), "history": MIXED}, NoPlace(3)),
    (words.heard_along, {"mode": "pile", "shown": 0, "telling": (0,), "history": MIXED + MIXED[2:3] * 9}, Unfit()),
    (machines.leads, {"machine": LAST, "state": 2, "word": (3,)}, NoPlace(2)),
    (machines.state_behind, {"machine": LAST, "word": (1, 3, 4)}, NoPlace(3)),
    (machines.takes, {"machine": LAST, "word": (1, 3, 4)}, NoPlace(3)),
    (machines.are_alike, {"one": LAST, "other": (((0,),), ())}, Unfit()),
    (machines.parting_word, {"one": LAST, "other": (((0,),), ())}, Unfit()),
    (machines.parting_word, {"one": LAST, "other": WIDE}, CanNot()),
    (machines.way_to, {"machine": WIDE, "state": 2}, NoPlace(2)),
    (machines.way_back, {"machine": SOME, "state": -1}, NoPlace(-1)),
    (machines.way_back, {"machine": SOME, "state": 1}, CanNot()),
)


def mixed_kinds(arguments):
    """The arguments as they are, with lists for all tuples, and with lists for the outermost tuples alone."""
    outer = {name: list(value) if isinstance(value, tuple) else value for name, value in arguments.items()}
    return arguments, {name: lists_all_through(value) for name, value in arguments.items()}, outer


def parts_of(value):
    """value and all that is in it."""
    if isinstance(value, (tuple, list)):
        return [value] + [part for own in value for part in parts_of(own)]
    return [value]


class CallsTest(unittest.TestCase):

    def test_lists_for_tuples_and_arguments_by_name(self):
        for own, arguments in CALLS:
            expected = repr(own(*arguments.values()))
            for each in mixed_kinds(arguments):
                self.assertEqual(repr(own(*each.values())), expected, own.__name__)
                self.assertEqual(repr(own(**each)), expected, own.__name__)
                self.assertEqual(repr(own(**dict(reversed(each.items())))), expected, own.__name__)

    def test_no_list_within_what_is_returned(self):
        for own, arguments in CALLS:
            for each in mixed_kinds(arguments):
                result = own(**each)
                inner = parts_of(result)[1:] if isinstance(result, list) else parts_of(result)
                self.assertEqual([part for part in inner if isinstance(part, list)], [], own.__name__)

    def test_arguments_are_not_changed(self):
        for own, arguments in CALLS:
            for each in mixed_kinds(arguments):
                kept = copy.deepcopy(each)
                own(**each)
                self.assertEqual(repr(each), repr(kept), own.__name__)

    def test_returned_lists_are_new(self):
        for own, arguments in CALLS:
            for each in mixed_kinds(arguments):
                result = own(**each)
                if isinstance(result, list):
                    expected = repr(result)
                    result.clear()
                    self.assertEqual(repr(own(**each)), expected, own.__name__)

    def test_what_is_returned_stays_when_arguments_are_changed_later(self):
        history, word, steps = [["in", 1], ["in", 2]], [1, 2], [[1, 0], [1, 0]]
        results = [words.stands("queue", history), words.heard_along("pile", 3, [0, 0], history), words.puts(word),
                   words.seen("queue", word, 2), words.seen("pile", word, 2), machines.least([steps, [1]])]
        expected = repr(results)
        history.clear()
        word.append(3)
        steps[0][0] = 0
        self.assertEqual(repr(results), expected)

    def test_errors(self):
        for own, arguments, error in REFUSED:
            for each in mixed_kinds(arguments):
                kept = copy.deepcopy(each)
                for call in (lambda: own(*each.values()), lambda: own(**each)):
                    with self.assertRaises(type(error)) as caught:
                        call()
                    self.assertIs(type(caught.exception), type(error))
                    self.assertEqual(vars(caught.exception), vars(error))
                self.assertEqual(repr(each), repr(kept), own.__name__)

    def test_truth_is_told_by_true_and_false(self):
        for own, arguments in CALLS:
            if own.__name__ in ("is_sound", "takes", "are_alike", "leads_back"):
                self.assertIsInstance(own(**arguments), bool)


class InterfaceTest(unittest.TestCase):

    def test_names_and_arguments(self):
        for module, listed in INTERFACE.items():
            for name, arguments in re.findall(SIGNATURE, listed):
                own = getattr(module, name)
                self.assertEqual(list(inspect.signature(own).parameters), arguments.split(", "), name)
                self.assertEqual(own.__module__, module.__name__)

    def test_the_calls_reach_each_function(self):
        reached = {own for own, _ in CALLS}
        for module, listed in INTERFACE.items():
            for name, arguments in re.findall(SIGNATURE, listed):
                self.assertEqual(getattr(module, name) in reached, arguments != "thing", name)

    def test_errors(self):
        for name in ("NoPlace", "BadText", "CanNot", "TooMuch", "Unfit"):
            self.assertEqual(getattr(errors, name).__module__, "gonetold.errors")


if __name__ == "__main__":
    unittest.main()
