"""A desk: gonetold/desk.py."""

import re
import unittest

from gonetold.desk import desk, is_request
from gonetold.errors import BadText, CanNot, NoPlace, TooMuch, Unfit
from gonetold.keepers import answers_along, rooms_along
from gonetold.kept import is_kept, made
from gonetold.leastshown import least_shown
from gonetold.levels import level_of
from gonetold.machines import takes
from gonetold.piles import is_kept_pile, least_pile, made_pile
from gonetold.refuted import refuted
from gonetold.shown import is_kept_shown, made_shown
from gonetold.tellings import coarsest
from gonetold.texts import history_text, keeper_read, keeper_text, machine_read, machine_text, telling_read, telling_text
from gonetold.words import stands
from tests.oracles import PIECES, jumping, nested, ring, some_machines, turning_machines
from tests.test_texts import bent_texts

ODD, LAST, ODDS, SOME = ((((1,), (0,)), (1,)), (((1, 0), (1, 0)), (1,)), (((1, 0), (0, 1)), (1,)), (((1, 0), (1, 1)), (1,)))
TURNS = (((1, 1), (0, 2), (2, 0)), (0,))
SINGLE = ("make", "out", "clear", "undo", "stands", "takes", "room", "answer", "kept", "coarsest", "least", "level", "why")
ASKED = ("stands", "takes", "room", "answer", "kept", "coarsest", "least", "level", "why")


def with_text(word, text):
    """The request of this word with a text."""
    return word + "\n " + text.replace("\n", "\n ")


def machine_request(machine):
    return with_text("machine", machine_text(machine))


def is_request_plainly(thing):
    """Whether thing is a string that is one request."""
    if type(thing) is not str:
        return False
    words = "|".join(SINGLE)
    return bool(re.fullmatch(f"({words})|(queue|pile|in) (0|[1-9][0-9]{{0,5}})|(machine|telling|keeper)(\n [^\n]*)+", thing))


class Plain:
    """A desk that copies all that it holds at each deed."""

    def __init__(self):
        self.held = {"machine": ODD, "mode": "queue", "shown": 0, "telling": (0,), "keeper": None, "history": ()}
        self.done = []

    def work(self, request):
        """The reply to a request."""
        word, _, text = request.partition("\n ")
        word, _, number = word.partition(" ")
        held = dict(self.held)
        try:
            if word in ASKED:
                return self.answer(word)
            if word == "undo":
                if not self.done:
                    raise CanNot()
                name, self.held = self.done.pop()
                return name
            self.change(held, word, number, text.replace("\n ", "\n"))
        except (NoPlace, BadText, CanNot, TooMuch, Unfit) as error:
            return "refused " + type(error).__name__
        self.done.append((word, self.held))
        self.held = held
        return "done"

    def change(self, held, word, number, text):
        if word == "machine":
            machine = machine_read(text)
            held.update(machine=machine, telling=(0,) * len(machine[0][0]), keeper=None, history=())
        elif word == "telling":
            held.update(telling=telling_read(text), keeper=None)
            self.ask_letters(held["telling"])
        elif word == "keeper":
            keeper = keeper_read(text)
            self.ask_letters(keeper[2])
            held.update(keeper=keeper, mode=keeper[0], shown=keeper[1], telling=keeper[2])
        elif word in ("queue", "pile"):
            held.update(mode=word, shown=int(number), keeper=None)
        elif word == "make":
            held["keeper"] = self.made(held["machine"], held["mode"], held["shown"], held["telling"])
            held["telling"] = held["keeper"][2]
        elif word == "clear":
            held["history"] = ()
        else:
            self.put(held, word, number)

    def ask_letters(self, telling):
        if len(telling) != len(self.held["machine"][0][0]):
            raise Unfit()

    def made(self, machine, mode, shown, telling):
        if mode == "pile":
            return made_pile(machine, shown, telling)
        return made_shown(machine, shown) if shown > 0 else made(machine, telling)

    def put(self, held, word, number):
        if word == "in":
            if not 1 <= int(number) <= len(held["machine"][0][0]):
                raise NoPlace(int(number))
            held["history"] += (("in", int(number)),)
        else:
            if stands("queue", held["history"]) == ():
                raise CanNot()
            held["history"] += (("out",),)

    def answer(self, word):
        machine, mode, shown, telling, keeper, history = self.held.values()
        if word in ("room", "answer", "why") and keeper is None:
            raise CanNot()
        if word == "stands":
            return " ".join(str(letter) for letter in stands(mode, history)) or "-"
        if word == "takes":
            return ("no", "yes")[takes(machine, stands(mode, history))]
        if word == "room":
            return str(rooms_along(keeper, history)[-1])
        if word == "answer":
            return ("no", "yes")[answers_along(keeper, history)[-1]]
        if word == "coarsest":
            return " ".join(str(token) for token in coarsest(machine))
        if word == "level":
            return str(level_of(machine))
        if word == "why":
            return history_text(refuted(keeper, machine))
        if word == "least":
            number = least_pile(machine) if mode == "pile" else least_shown(machine)
            return "-" if number is None else str(number)
        if mode == "pile":
            return ("no", "yes")[is_kept_pile(machine, shown, telling)]
        return ("no", "yes")[is_kept_shown(machine, shown) if shown else is_kept(machine, telling)]


def plain_desk(requests):
    held = Plain()
    return [held.work(request) for request in requests]


def some_requests(seed, many):
    """Requests told off by a counter that jumps about."""
    drawn = jumping(seed)
    machines = [ODD, LAST, ODDS, SOME, TURNS, ring(3), (((0, 0, 0),), ())] + some_machines(3, 2, 3) + turning_machines(3, 2, 2)
    keepers = [("queue", 0, (0,), (False,), 0, ((),)), made(ODDS, (0, 1)), made_pile(LAST, 1, (0, 0)), made_shown(LAST, 1),
               ("pile", 0, (0, 1), (True, False), 1, (((("in", 1), (), 1),), ((("out", 1), (), 0),)))]
    requests = []
    for _ in range(many):
        kind = drawn(20)
        if kind < 5:
            requests.append(f"in {drawn(4)}" if drawn(4) == 0 else f"in {1 + drawn(2)}")
        elif kind < 8:
            requests.append("out")
        elif kind == 8:
            requests.append(machine_request(machines[drawn(len(machines))]) + (" x" if drawn(8) == 0 else ""))
        elif kind == 9:
            requests.append(f"{('queue', 'pile')[drawn(2)]} {drawn(3)}")
        elif kind == 10:
            requests.append(with_text("telling", ("telling 0", "telling 0 1", "telling 0 0", "telling 0 2", "")[drawn(5)]))
        elif kind == 11:
            requests.append(with_text("keeper", keeper_text(keepers[drawn(len(keepers))]) + ("\n" if drawn(8) == 0 else "")))
        elif kind == 12:
            requests.append("make")
        elif kind == 13:
            requests.append("undo" if drawn(3) else "clear")
        else:
            requests.append(ASKED[drawn(len(ASKED))])
    return requests


class RepliesTest(unittest.TestCase):

    def check(self, *requests):
        replies = desk("\n".join(requests))
        self.assertEqual(replies, plain_desk(requests))
        return replies

    def test_replies_are_those_of_the_functions(self):
        told = set()
        for seed in range(60):
            requests = some_requests(seed, 80)
            for request, reply in zip(requests, self.check(*requests)):
                told.add((re.match("[a-z]+", request)[0], reply if reply.startswith("refused") else ""))
        self.assertTrue({("in", "refused NoPlace"), ("out", "refused CanNot"), ("make", "refused CanNot"),
                         ("machine", "refused BadText"), ("telling", "refused Unfit"), ("telling", "refused BadText"),
                         ("keeper", "refused Unfit"), ("keeper", "refused BadText"), ("undo", "refused CanNot"),
                         ("room", "refused CanNot"), ("answer", "refused CanNot"), ("why", "refused CanNot"),
                         ("why", "refused Unfit"), ("coarsest", "refused CanNot"), ("level", "refused CanNot")} <= told)
        self.assertTrue({(word, "") for word in SINGLE + ("machine", "telling", "keeper", "queue", "pile", "in")} <= told)

    def test_nothing(self):
        self.assertEqual(desk(""), [])
        self.assertEqual(self.check("stands"), ["-"])
        self.assertEqual(self.check(machine_request(SOME), "least", "pile 0", "least"), ["done", "-", "done", "-"])
        self.assertEqual(self.check("in 1", "out", "stands"), ["done", "done", "-"])

    def test_at_first(self):
        self.assertEqual(self.check("stands", "takes", "kept", "coarsest", "least", "level", "room", "undo"),
                         ["-", "no", "yes", "0", "0", "2", "refused CanNot", "refused CanNot"])

    def test_make_in_both_modes(self):
        for machine in (ODD, LAST, ODDS, TURNS, SOME):
            letters = len(machine[0][0])
            for mode in ("queue", "pile"):
                for shown in (0, 1, 2):
                    for telling in ((0,) * letters, tuple(range(letters))):
                        self.check(machine_request(machine), with_text("telling", telling_text(telling)), f"{mode} {shown}",
                                   "in 1", "make", "room", "answer", "takes", "in 1", "answer", "takes", "out", "answer",
                                   "takes", "kept", "undo", "undo", "undo", "room", "kept", "why")
        # With letters shown the telling that is held is put by that of the keeper.
        told = self.check(machine_request(ODDS), with_text("telling", "telling 0 1"), "queue 1", "make", "queue 0", "kept")
        self.assertEqual(told, ["done"] * 5 + ["no"])

    def test_too_much(self):
        self.assertEqual(self.check(machine_request(ring(31)), "make", "room"), ["done", "refused TooMuch", "refused CanNot"])
        self.assertEqual(self.check(machine_request(ring(501)), "pile 0", "kept", "make", "least"),
                         ["done", "done"] + ["refused TooMuch"] * 3)
        self.assertEqual(self.check(machine_request(LAST), "pile 9", "make", "kept"), ["done", "done", "refused TooMuch", "yes"])
        self.assertEqual(self.check(machine_request(ring(501)), "pile 0", with_text("keeper", "keeper pile 0 0\ntelling 0\nno"),
                                    "why"), ["done", "done", "done", "refused TooMuch"])

    def test_undo_behind_each_kind_of_deed(self):
        state = ("stands", "takes", "room", "answer", "kept", "coarsest", "least", "level")
        begin = (machine_request(ODDS), with_text("telling", "telling 0 1"), "make", "in 1", "in 2")
        for deed, word in ((machine_request(LAST), "machine"), (with_text("telling", "telling 0 0"), "telling"),
                           (with_text("keeper", "keeper pile 2 0\ntelling 0 0\nno"), "keeper"), ("queue 1", "queue"),
                           ("pile 3", "pile"), ("make", "make"), ("in 2", "in"), ("out", "out"), ("clear", "clear")):
            told = self.check(*begin, *state, deed, *state, "undo", *state)
            self.assertEqual(told[5:13], told[-8:])
            self.assertEqual((told[13], told[22]), ("done", word))

    def test_undo_of_all(self):
        deeds = ("in 1", "in 1", "clear", "in 1", machine_request(LAST), "in 2", "in 1", "out", "queue 1", "make", "clear", "clear")
        told = self.check(*deeds, *(("undo", "stands", "takes", "answer") * (len(deeds) + 1)))
        self.assertEqual(told[12::4], ["clear", "clear", "make", "queue", "out", "in", "in", "machine", "in", "clear", "in", "in",
                                       "refused CanNot"])
        self.assertEqual(told[-3:], ["-", "no", "refused CanNot"])

    def test_undo_is_no_deed_and_what_is_refused_is_none(self):
        told = self.check("in 1", "in 9", "out", "out", "undo", "undo", "undo", "stands")
        self.assertEqual(told, ["done", "refused NoPlace", "done", "refused CanNot", "out", "in", "refused CanNot", "-"])
        told = self.check("in 1", with_text("telling", "telling 0 0"), with_text("machine", "machine"), "undo", "undo")
        self.assertEqual(told, ["done", "refused Unfit", "refused BadText", "in", "refused CanNot"])

    def test_a_new_history_behind_undo(self):
        told = self.check("in 1", "in 1", "clear", "in 1", "undo", "undo", "in 1", "stands", "undo", "stands")
        self.assertEqual(told[-3:], ["1 1 1", "in", "1 1"])

    def test_letters_from_0_on(self):
        self.assertEqual(self.check("in 0", "in 1", "in 2", "in 999999"),
                         ["refused NoPlace", "done", "refused NoPlace", "refused NoPlace"])

    def test_the_history_stays_with_another_mode(self):
        told = self.check(machine_request(ODDS), "in 1", "in 2", "out", "stands", "pile 0", "stands", "queue 0", "stands")
        self.assertEqual(told[4::2], ["2", "1", "2"])

    def test_why(self):
        for mode, shown in (("queue", 0), ("pile", 0), ("queue", 2), ("pile", 1)):
            keeper = with_text("keeper", f"keeper {mode} {shown} 0\ntelling 0 0\nno")
            told = self.check(machine_request(SOME), keeper, "why", "undo", "why")
            self.assertTrue(told[2].startswith("history "), told)
            self.assertEqual(told[4], "refused CanNot")
        self.assertEqual(self.check("make", "why"), ["done", "refused Unfit"])

    def test_texts_of_empty_lines(self):
        for request in ("machine\n ", "telling\n ", "keeper\n ", "machine\n \n ", "telling\n telling 0\n ", "machine\n  machine"):
            self.assertEqual(self.check(request), ["refused BadText"])
        self.assertEqual(self.check("telling\n telling 0"), ["done"])

    def test_many_requests(self):
        # What an undo takes back must not be copied at each deed.
        many = 30000
        replies = desk("in 1\n" * many + "stands\n" + "undo\n" * many + "undo")
        self.assertEqual(len(replies[many].split(" ")), many)
        self.assertEqual(replies[-2:], ["in", "refused CanNot"])


class BadTextTest(unittest.TestCase):

    def test_the_first_line_that_is_no_request(self):
        for text, line in (("\n", 1), (" ", 1), (" out", 1), ("out\n", 2), ("out\n\nin 1", 2), ("out\n out", 1),
                           ("machine", 1), ("out\nmachine\nout", 2), ("in", 1), ("in 1 ", 1), ("in  1", 1), ("in 01", 1),
                           ("in 1000000", 1), ("in 1 2", 1), ("in -1", 1), ("in x", 1), ("queue", 1), ("pile 00", 1), ("Out", 1),
                           ("out ", 1), ("out 1", 1), ("undo 1", 1), ("machine 1\n machine\n state 0", 1), ("\nout", 1),
                           ("telling\n telling 0\nnone", 3), ("telling\n telling 0\n\n", 3), ("telling\n \n", 3),
                           ("in 1\nin 1\n in 1\nnone", 2), ("stands\n \nout", 1), ("keeper\n x\n y\nkeeper", 4),
                           ("machine\n machine\n state 0\nin 1\r", 4), ("in \u0661", 1), ("in \u00b2", 1), ("out\r\nout", 1),
                           ("in 1\u2028in 1", 1), ("out\tout", 1), ("\tout", 1), ("in 1.0", 1), ("in +1", 1), ("in 1_0", 1)):
            with self.assertRaises(BadText, msg=repr(text)) as caught:
                desk(text)
            self.assertEqual((caught.exception.line, vars(caught.exception)), (line, {"line": line}), repr(text))

    def test_numbers_of_6_and_7_figures(self):
        for word in ("in", "queue", "pile"):
            self.assertIs(is_request(word + " 999999"), True)
            self.assertIs(is_request(word + " 0"), True)
            self.assertIs(is_request(word + " 1000000"), False)
            self.assertIs(is_request(word + " 000001"), False)
        self.assertEqual(desk("queue 999999\nkept\npile 999999\nkept\nmake"), ["done", "yes", "done", "yes", "refused TooMuch"])

    def test_before_all_else(self):
        with self.assertRaises(BadText) as caught:
            desk("\n".join(some_requests(1, 200)) + "\nnone")
        self.assertEqual(caught.exception.line, "\n".join(some_requests(1, 200)).count("\n") + 2)

    def test_texts_bent_in_one_place(self):
        text = "in 1\ntelling\n telling 0\nout\nkept"
        told = 0
        for own in bent_texts(text):
            starts = [at for at, line in enumerate(own.split("\n")) if at == 0 or not line.startswith(" ")] if own else []
            lines = own.split("\n")
            requests = ["\n".join(lines[at:end]) for at, end in zip(starts, starts[1:] + [len(lines)])]
            wrong = [at + 1 for at, request in zip(starts, requests) if not is_request_plainly(request)]
            if wrong:
                with self.assertRaises(BadText, msg=repr(own)) as caught:
                    desk(own)
                self.assertEqual(caught.exception.line, wrong[0], repr(own))
            else:
                self.assertEqual(desk(own), plain_desk(requests), repr(own))
                told += 1
        self.assertGreater(told, 10)


class IsRequestTest(unittest.TestCase):

    def test_each_request(self):
        for thing in SINGLE + ("in 12", "queue 0", "pile 6", "in 999999", "machine\n ", "telling\n x", "keeper\n  \n y\n "):
            self.assertIs(is_request(thing), True, thing)
            self.assertIs(is_request_plainly(thing), True, thing)

    def test_strings_that_are_nearly_one(self):
        told = {True: 0, False: 0}
        for text in SINGLE + ("in 12", "queue 0", "pile 10", "machine\n x", "telling\n telling 0", "keeper\n a\n b"):
            for thing in bent_texts(text):
                expected = is_request_plainly(thing)
                self.assertIs(is_request(thing), expected, repr(thing))
                told[expected] += 1
        self.assertGreater(min(told.values()), 100)

    def test_two_requests_and_none(self):
        for thing in ("", "\n", "out\nout", "in 1\n", "\nin 1", "telling\n x\nout", " ", "in", "machine", "telling", "keeper",
                      "undo 1", "in 1 2", "machine x\n y", "stand", "OUT", "out\x00", "out\r", "in 1\x0b", "\ud800"):
            self.assertIs(is_request(thing), False, repr(thing))

    def test_other_things(self):
        deep = tuple(nested(levels, kind) for levels in (1, 99, 100) for kind in (tuple, list))
        for thing in PIECES + deep + (("out",), ["undo"], ("in 1",), 10 ** 5000):
            self.assertIs(is_request(thing), type(thing) is str and thing == "out")
        self.assertIs(is_request("machine" + "\n " * 50000), True)
        self.assertIs(is_request("machine" + "\n " * 50000 + "\n"), False)


if __name__ == "__main__":
    unittest.main()
