"""What holds of every function, and the names and arguments of the interface."""

import copy
import inspect
import re
import unittest

from gonetold import (desk, doings, errors, joins, judge, keepers, kept, leastshown, levels, loops, machines, pilejudge, piles,
                      refuted, shown, tellings, texts, words)
from gonetold.errors import BadText, CanNot, NoPlace, TooMuch, Unfit
from tests.interface import INTERFACE
from tests.oracles import lists_all_through

SIGNATURE = r"(\w+)\(([^)]*)\)"

MIXED = (("in", 1), ("in", 2), ("out",), ("in", 2), ("in", 3), ("out",))
LAST, ODDS, SOME = (((1, 0), (1, 0)), (1,)), (((1, 0), (0, 1)), (1,)), (((1, 0), (1, 1)), (1,))
WIDE = (((2, 1), (2, 1), (2, 3), (2, 1)), (2,))
TWOS, PAIR = (((1, 2), (0, 0), (0, 0)), (1,)), (((1, 0), (2, 0), (2, 0)), (2,))
ONES = ("queue", 0, (0, 1), (False, True), 0, (((("in", 1), (), 1), (("out", 0), (), 1)),
                                              ((("in", 1), (), 0), (("out", 0), (), 0))))
BLIND = ("queue", 0, (0, 0)) + ONES[3:]
SEEING = ("pile", 2, (0, 0), (True, False), 1, (((("in", 2), (1, 2), 1), (("out", 0), (), 1)),
                                               ((("in", 1), (1,), 0), (("in", 1), (1, 1), 1))))
# Rings of so many states, of one letter: they have as many doings.
RING_30, RING_31, RING_501 = [(tuple(((state + 1) % many,) for state in range(many)), (0,)) for many in (30, 31, 501)]
# It has 5 ** 5 doings.
MANY = (((1, 1, 0), (2, 0, 0), (3, 2, 2), (4, 3, 3), (0, 4, 4)), (0,))
NEWEST = ("pile", 0, (0, 1), (False, True), 0, ((((("in", 1), (), 1)),), ((("in", 2), (), 0), (("out", 0), (), 0))))
PILE_ONES = piles.made_pile(ODDS, 0, (0, 1))
TEXT = "keeper pile 1 0\ntelling 0 0\nyes\nin 1 1 to 1\nout 0 to 0\nno"

CALLS = (
    (words.is_sound, {"history": MIXED}), (words.is_sound, {"history": MIXED[2:]}),
    (words.puts, {"word": (2, 1, 3)}), (words.puts, {"word": ()}), (words.outs, {"many": 3}),
    (words.stands, {"mode": "queue", "history": MIXED}), (words.stands, {"mode": "pile", "history": MIXED}),
    (words.standings, {"mode": "queue", "history": MIXED}), (words.standings, {"mode": "pile", "history": MIXED}),
    (words.letters_out, {"mode": "queue", "history": MIXED}), (words.letters_out, {"mode": "pile", "history": MIXED}),
    (words.seen, {"mode": "queue", "word": (1, 2, 3), "shown": 2}),
    (words.seen, {"mode": "pile", "word": (1, 2, 3), "shown": 2}),
    (words.seen, {"mode": "pile", "word": (1, 2, 3), "shown": 9}),
    (words.heard_along, {"mode": "queue", "shown": 1, "telling": (0, 0, 1), "history": MIXED}),
    (words.heard_along, {"mode": "pile", "shown": 2, "telling": (0, 1, 2), "history": MIXED}),
    (words.histories_of, {"letters": 2, "many": 3}),
    (machines.letters_in, {"machine": WIDE}), (machines.leads, {"machine": WIDE, "state": 0, "word": (2, 1, 2)}),
    (machines.state_behind, {"machine": ODDS, "word": (1, 2)}), (machines.takes, {"machine": ODDS, "word": (1, 2)}),
    (machines.least, {"machine": WIDE}), (machines.least, {"machine": ODDS}),
    (machines.are_alike, {"one": WIDE, "other": LAST}), (machines.are_alike, {"one": ODDS, "other": LAST}),
    (machines.parting_word, {"one": LAST, "other": ODDS}), (machines.way_to, {"machine": LAST, "state": 1}),
    (machines.way_back, {"machine": LAST, "state": 1}), (machines.leads_back, {"machine": SOME}),
    (doings.doing_of, {"machine": WIDE, "word": (2, 1)}), (doings.one_of, {"machine": WIDE}),
    (doings.then, {"one": (1, 2, 0), "other": (1, 0, 2)}), (doings.doings, {"machine": LAST}),
    (doings.word_for, {"machine": LAST, "doing": (1, 1)}), (doings.idempotents, {"machine": WIDE}),
    (doings.image_of, {"doing": (2, 0, 2)}), (doings.rank_of, {"doing": (2, 0, 2)}),
    (doings.is_idempotent, {"doing": (0, 0)}), (doings.is_idempotent, {"doing": (1, 0)}),
    (doings.images, {"machine": LAST}), (doings.lap_of, {"doing": (1, 2, 2)}),
    (doings.idempotent_power, {"doing": (1, 2, 2)}), (doings.idempotent_power, {"doing": (0, 1)}),
    (loops.returns, {"machine": TWOS, "word": (2, 1)}), (loops.returns_machine, {"machine": TWOS}),
    (loops.lost_word, {"machine": SOME}), (loops.breaker, {"machine": WIDE}), (loops.keeps_tails, {"machine": TWOS}),
    (loops.is_breaker, {"machine": LAST, "thing": ((1,), (2,))}), (loops.first_returns, {"machine": ODDS, "longest": 3}),
    (kept.is_kept, {"machine": ODDS, "telling": (0, 1)}), (kept.is_kept, {"machine": ODDS, "telling": (0, 0)}),
    (kept.why_not, {"machine": ODDS, "telling": (0, 0)}), (kept.why_not, {"machine": SOME, "telling": (0, 1)}),
    (kept.why_not, {"machine": WIDE, "telling": (0, 1)}), (kept.made, {"machine": ODDS, "telling": (0, 1)}),
    (kept.is_why_not, {"machine": ODDS, "telling": (0, 0), "thing": ("unlike", (), 2, 1, ())}),
    (kept.is_why_not, {"machine": WIDE, "telling": (0, 0), "thing": ("tail", (1,), (2,))}),
    (kept.is_why_not, {"machine": SOME, "telling": (0, 0), "thing": ("lost", (1,))}),
    (kept.left_state, {"machine": TWOS, "gone": (0, 1, 1), "came": (1, 0, 0)}),
    (tellings.tellings, {"many": 4}), (tellings.told, {"telling": (0, 1, 0), "word": (3, 2, 1)}),
    (tellings.spread, {"telling": (0, 1, 0), "tokens": (0, 1, 0)}),
    (tellings.stand_in, {"telling": (0, 1, 0), "word": (3, 2, 1)}),
    (tellings.is_finer, {"one": (0, 1, 2), "other": (0, 1, 1)}), (tellings.joined, {"one": (0, 0, 1), "other": (0, 1, 1)}),
    (tellings.met, {"one": (0, 0, 1), "other": (0, 1, 1)}), (tellings.good_tellings, {"machine": TWOS}),
    (tellings.coarsest, {"machine": TWOS}),
    (keepers.rooms_along, {"keeper": SEEING, "history": MIXED[:4]}),
    (keepers.answers_along, {"keeper": ONES, "history": MIXED[:4]}),
    (keepers.answer_behind, {"keeper": ONES, "history": ()}),
    (keepers.parts, {"keeper": ONES, "machine": LAST, "history": MIXED[:3]}),
    (keepers.parts, {"keeper": SEEING, "machine": LAST, "history": MIXED[:2]}),
    (keepers.first_parting, {"keeper": BLIND, "machine": ODDS, "many": 6}),
    (keepers.first_parting, {"keeper": ONES, "machine": ODDS, "many": 3}),
    (shown.is_kept_shown, {"machine": WIDE, "shown": 1}), (shown.bar, {"machine": SOME, "shown": 2}),
    (shown.is_bar, {"machine": WIDE, "shown": 0, "thing": ((1,), ())}), (shown.made_shown, {"machine": LAST, "shown": 1}),
    (shown.made_shown, {"machine": ODDS, "shown": 0}), (leastshown.barred, {"machine": PAIR, "shown": 1}),
    (leastshown.least_shown, {"machine": PAIR}), (leastshown.longest_bar, {"machine": PAIR}),
    (leastshown.never_paper, {"machine": SOME}),
    (leastshown.is_never_paper, {"machine": SOME, "thing": ((), (1,), (2,))}),
    (piles.least_rank, {"machine": WIDE}), (piles.least_pile, {"machine": PAIR}), (piles.least_pile, {"machine": SOME}),
    (piles.is_kept_pile, {"machine": ODDS, "shown": 0, "telling": (0, 1)}),
    (piles.is_kept_pile, {"machine": WIDE, "shown": 0, "telling": (0, 0)}),
    (piles.bar_pile, {"machine": SOME, "shown": 2, "telling": (0, 0)}),
    (piles.bar_pile, {"machine": ODDS, "shown": 0, "telling": (0, 0)}),
    (piles.is_bar_pile, {"machine": WIDE, "shown": 0, "telling": (0, 1), "thing": ("sink", (), (1,))}),
    (piles.is_bar_pile, {"machine": ODDS, "shown": 0, "telling": (0, 0), "thing": ("unlike", 1, 2)}),
    (piles.made_pile, {"machine": WIDE, "shown": 1, "telling": (0, 0)}),
    (piles.made_pile, {"machine": ODDS, "shown": 0, "telling": (0, 1)}),
    (refuted.two_rows, {"keeper": BLIND, "machine": ODDS}), (refuted.two_rows, {"keeper": SEEING, "machine": SOME}),
    (refuted.is_two_rows, {"keeper": ONES, "machine": LAST, "thing": ((("in", 1), ("in", 1)), ())}),
    (refuted.refuted, {"keeper": ONES, "machine": WIDE}), (refuted.refuted, {"keeper": NEWEST, "machine": WIDE}),
    (refuted.refuted, {"keeper": ("pile",) + BLIND[1:], "machine": ODDS}),
    (levels.is_levelled, {"machine": TWOS}), (levels.level_of, {"machine": TWOS}), (levels.levels, {"machine": TWOS}),
    (levels.unlevelled, {"machine": WIDE}), (levels.row_of, {"machine": TWOS, "word": (1, 2, 1)}),
    (levels.level_rows, {"machine": TWOS}), (levels.fewest_rooms, {"machine": TWOS}), (levels.made_level, {"machine": TWOS}),
    (pilejudge.least_table, {"keeper": NEWEST, "machine": WIDE}),
    (pilejudge.is_table, {"keeper": PILE_ONES, "machine": ODDS, "thing": pilejudge.least_table(PILE_ONES, ODDS)}),
    (pilejudge.judged, {"keeper": NEWEST, "machine": WIDE}), (pilejudge.judged, {"keeper": PILE_ONES, "machine": ODDS}),
    (pilejudge.judged, {"keeper": SEEING, "machine": SOME}), (pilejudge.is_right, {"keeper": PILE_ONES, "machine": ODDS}),
    (joins.other_way, {"machine": WIDE}), (joins.both_of, {"one": WIDE, "other": ODDS}),
    (joins.either_of, {"one": WIDE, "other": ODDS}), (joins.right_quotient, {"machine": PAIR, "word": (1, 2)}),
    (joins.other_kept, {"keeper": SEEING}), (joins.both_kept, {"one": ONES, "other": ONES}),
    (joins.both_kept, {"one": SEEING, "other": SEEING[:3] + ((False, True), 0) + SEEING[5:]}),
    (joins.either_kept, {"one": BLIND, "other": kept.made(TWOS, (0, 0))}),
    (joins.quotient_kept, {"keeper": ONES, "word": (1, 2, 1)}),
    (judge.is_so, {"claim": ("right", NEWEST, WIDE)}), (judge.is_so, {"claim": ("level", TWOS, 2)}),
    (judge.paper, {"claim": ("kept", ODDS, (0, 0))}), (judge.paper, {"claim": ("coarsest", ODDS, (0, 0))}),
    (judge.paper, {"claim": ("never", SOME)}), (judge.paper, {"claim": ("pile", WIDE, 1, (0, 1))}),
    (judge.paper, {"claim": ("right", BLIND, ODDS)}), (judge.paper, {"claim": ("right", PILE_ONES, ODDS)}),
    (judge.is_paper_for, {"claim": ("pile", ODDS, 0, (0, 1)), "thing": PILE_ONES}),
    (judge.is_paper_against, {"claim": ("pile", ODDS, 0, (0, 0)), "thing": ("unlike", 1, 2)}),
    (judge.verdicts, {"claims": (("shown", WIDE, 0), ("never", SOME)), "things": (((1,), ()), [(), (1,), (2,)])}),
    (judge.comes_of, {"claim": ("shown", ODDS, 3), "claims": (("never", ODDS), ("coarsest", ODDS, (0, 1)))}),
    (judge.first_false, {"claims": (("kept", ODDS, (0, 1)), ("right", NEWEST, WIDE))}),
    (judge.first_false, {"claims": ()}), (texts.machine_text, {"machine": WIDE}), (texts.telling_text, {"telling": (0, 1, 0)}),
    (texts.word_text, {"word": (2, 1)}), (texts.history_text, {"history": MIXED}), (texts.keeper_text, {"keeper": SEEING}),
    (texts.machine_read, {"text": "machine\nstate 1 0\nend 0 1"}), (texts.telling_read, {"text": "telling 0 1"}),
    (texts.word_read, {"text": "word 2 1"}), (texts.history_read, {"text": "history 2 - 1"}),
    (texts.keeper_read, {"text": TEXT}), (desk.desk, {"text": "in 1\nmake\nout\nundo\nroom\nwhy"}),
)

REFUSED = (
    (words.stands, {"mode": "queue", "history": (("out",),)}, Unfit()),
    (words.standings, {"mode": "pile", "history": (("out",),)}, Unfit()),
    (words.letters_out, {"mode": "pile", "history": (("out",),)}, Unfit()),
    (words.heard_along, {"mode": "pile", "shown": 0, "telling": (0, 1), "history": MIXED}, NoPlace(3)),
    (words.heard_along, {"mode": "pile", "shown": 0, "telling": (0,), "history": MIXED + MIXED[2:3] * 9}, Unfit()),
    (machines.leads, {"machine": LAST, "state": 2, "word": (3,)}, NoPlace(2)),
    (machines.state_behind, {"machine": LAST, "word": (1, 3, 4)}, NoPlace(3)),
    (machines.takes, {"machine": LAST, "word": (1, 3, 4)}, NoPlace(3)),
    (machines.are_alike, {"one": LAST, "other": (((0,),), ())}, Unfit()),
    (machines.parting_word, {"one": LAST, "other": (((0,),), ())}, Unfit()),
    (machines.parting_word, {"one": LAST, "other": WIDE}, CanNot()),
    (machines.way_to, {"machine": WIDE, "state": 2}, NoPlace(2)),
    (machines.way_back, {"machine": SOME, "state": -1}, NoPlace(-1)),
    (machines.way_back, {"machine": SOME, "state": 1}, CanNot()),
    (doings.doing_of, {"machine": WIDE, "word": (2, 4, 3)}, NoPlace(4)),
    (doings.doings, {"machine": RING_501}, TooMuch()), (doings.idempotents, {"machine": RING_501}, TooMuch()),
    (doings.word_for, {"machine": RING_501, "doing": (0,) * 501}, TooMuch()),
    (doings.word_for, {"machine": LAST, "doing": (1, 0)}, CanNot()),
    (loops.returns, {"machine": LAST, "word": (1, 3, 4)}, NoPlace(3)), (loops.lost_word, {"machine": LAST}, CanNot()),
    (loops.breaker, {"machine": TWOS}, CanNot()), (loops.first_returns, {"machine": ODDS, "longest": 1002}, TooMuch()),
    (kept.is_kept, {"machine": TWOS, "telling": (0, 0, 1)}, Unfit()),
    (kept.is_kept, {"machine": TWOS, "telling": (0, 2)}, Unfit()),
    (kept.why_not, {"machine": TWOS, "telling": (0,)}, Unfit()),
    (kept.why_not, {"machine": TWOS, "telling": (0, 1)}, CanNot()),
    (kept.is_why_not, {"machine": SOME, "telling": (0, 0, 0), "thing": ("lost", (1,))}, Unfit()),
    (kept.left_state, {"machine": LAST, "gone": (1, 1), "came": (1, 1)}, CanNot()),
    (kept.made, {"machine": LAST, "telling": (0, 0, 1)}, Unfit()),
    (kept.made, {"machine": LAST, "telling": (0, 0)}, CanNot()),
    (kept.made, {"machine": RING_31, "telling": (0,)}, TooMuch()),
    (kept.made, {"machine": RING_31, "telling": (0, 1)}, Unfit()),
    (tellings.told, {"telling": (0, 1, 0), "word": (3, 4, 5)}, NoPlace(4)),
    (tellings.stand_in, {"telling": (0, 1, 0), "word": (3, 4, 5)}, NoPlace(4)),
    (tellings.spread, {"telling": (0, 1, 0), "tokens": (1, 3, 2)}, NoPlace(3)),
    (tellings.is_finer, {"one": (0, 1, 0), "other": (0, 1)}, Unfit()),
    (tellings.joined, {"one": (0,), "other": (0, 1)}, Unfit()),
    (tellings.met, {"one": (0, 0), "other": (0, 1, 0)}, Unfit()), (tellings.coarsest, {"machine": LAST}, CanNot()),
    (keepers.rooms_along, {"keeper": ONES, "history": (("out",), ("in", 3))}, Unfit()),
    (keepers.answers_along, {"keeper": ONES, "history": (("in", 1), ("in", 4), ("in", 3))}, NoPlace(4)),
    (keepers.answer_behind, {"keeper": ONES, "history": (("in", 3), ("out",), ("out",))}, Unfit()),
    (keepers.parts, {"keeper": ONES, "machine": RING_30, "history": (("in", 3),)}, Unfit()),
    (keepers.parts, {"keeper": ONES, "machine": LAST, "history": (("in", 3), ("out",), ("out",))}, Unfit()),
    (keepers.parts, {"keeper": ONES, "machine": LAST, "history": (("in", 3),)}, NoPlace(3)),
    (keepers.first_parting, {"keeper": ONES, "machine": RING_30, "many": 3}, Unfit()),
    (keepers.first_parting, {"keeper": ONES, "machine": ODDS, "many": 20}, TooMuch()),
    (shown.is_kept_shown, {"machine": LAST, "shown": -1}, Unfit()),
    (shown.bar, {"machine": SOME, "shown": None}, Unfit()), (shown.bar, {"machine": ODDS, "shown": 0}, CanNot()),
    (shown.is_bar, {"machine": LAST, "shown": True, "thing": ((1,), (2,))}, Unfit()),
    (shown.made_shown, {"machine": SOME, "shown": -1}, Unfit()), (shown.made_shown, {"machine": SOME, "shown": 4}, CanNot()),
    (shown.made_shown, {"machine": RING_30, "shown": 4}, TooMuch()),
    (leastshown.barred, {"machine": LAST, "shown": -1}, Unfit()), (leastshown.longest_bar, {"machine": ODDS}, CanNot()),
    (leastshown.longest_bar, {"machine": SOME}, CanNot()), (leastshown.never_paper, {"machine": PAIR}, CanNot()),
    (piles.least_rank, {"machine": MANY}, TooMuch()), (piles.least_pile, {"machine": MANY}, TooMuch()),
    (piles.is_kept_pile, {"machine": MANY, "shown": 0, "telling": (0, 0)}, Unfit()),
    (piles.is_kept_pile, {"machine": MANY, "shown": -1, "telling": (0,)}, Unfit()),
    (piles.is_kept_pile, {"machine": MANY, "shown": 0, "telling": (0, 1, 2)}, TooMuch()),
    (piles.bar_pile, {"machine": WIDE, "shown": 1, "telling": (0, 0)}, CanNot()),
    (piles.bar_pile, {"machine": MANY, "shown": 0, "telling": (0, 1, 2)}, TooMuch()),
    (piles.is_bar_pile, {"machine": WIDE, "shown": 1, "telling": (0,), "thing": ()}, Unfit()),
    (piles.made_pile, {"machine": SOME, "shown": 20, "telling": (0, 0)}, CanNot()),
    (piles.made_pile, {"machine": WIDE, "shown": 20, "telling": (0, 0)}, TooMuch()),
    (refuted.two_rows, {"keeper": ONES, "machine": RING_30}, Unfit()), (refuted.two_rows, {"keeper": ONES, "machine": ODDS}, Unfit()),
    (refuted.refuted, {"keeper": PILE_ONES, "machine": ODDS}, Unfit()),
    (refuted.is_two_rows, {"keeper": ONES, "machine": RING_30, "thing": ()}, Unfit()),
    (levels.level_of, {"machine": WIDE}, CanNot()), (levels.levels, {"machine": WIDE}, CanNot()),
    (levels.unlevelled, {"machine": TWOS}, CanNot()), (levels.row_of, {"machine": WIDE, "word": (3,)}, CanNot()),
    (levels.row_of, {"machine": TWOS, "word": (3,)}, NoPlace(3)), (levels.row_of, {"machine": TWOS, "word": (2,)}, Unfit()),
    (levels.level_rows, {"machine": SOME}, CanNot()), (levels.fewest_rooms, {"machine": SOME}, CanNot()),
    (levels.made_level, {"machine": SOME}, CanNot()), (pilejudge.least_table, {"keeper": ONES, "machine": ODDS}, Unfit()),
    (pilejudge.is_table, {"keeper": PILE_ONES, "machine": RING_30, "thing": ()}, Unfit()),
    (pilejudge.judged, {"keeper": SEEING, "machine": MANY}, Unfit()),
    (pilejudge.is_right, {"keeper": ("queue",) + NEWEST[1:], "machine": WIDE}, Unfit()),
    (joins.both_of, {"one": WIDE, "other": RING_30}, Unfit()), (joins.either_of, {"one": RING_30, "other": WIDE}, Unfit()),
    (joins.right_quotient, {"machine": WIDE, "word": (2, 4, 3)}, NoPlace(4)),
    (joins.both_kept, {"one": ONES, "other": BLIND}, Unfit()), (joins.either_kept, {"one": ONES, "other": PILE_ONES}, Unfit()),
    (joins.quotient_kept, {"keeper": ONES, "word": (1, 3)}, Unfit()), (joins.quotient_kept, {"keeper": SEEING, "word": ()}, Unfit()),
    (judge.is_so, {"claim": ("right", ONES, ODDS)}, Unfit()), (judge.paper, {"claim": ("pile", MANY, 0, (0, 0, 0))}, TooMuch()),
    (judge.is_paper_for, {"claim": ("level", TWOS, 0), "thing": ()}, Unfit()),
    (judge.is_paper_against, {"claim": ("pile", MANY, 0, (0, 0, 0)), "thing": ()}, TooMuch()),
    (judge.verdicts, {"claims": (("never", SOME),), "things": ()}, Unfit()),
    (judge.comes_of, {"claim": ("never", SOME), "claims": (("never",),)}, Unfit()),
    (judge.first_false, {"claims": (("never", ODDS), ("never",))}, Unfit()),
    (texts.machine_read, {"text": "machine\nstate 1 0"}, BadText(3)), (texts.telling_read, {"text": "telling 1"}, BadText(1)),
    (texts.word_read, {"text": "word\n"}, BadText(2)), (texts.history_read, {"text": ""}, BadText(1)),
    (texts.keeper_read, {"text": TEXT + "\nout 1 to 0"}, BadText(7)), (desk.desk, {"text": "out\n\nin 1"}, BadText(2)),
)


def mixed_kinds(arguments):
    """The arguments as they are, with lists for all tuples, and with lists for the outermost tuples alone.

    A thing stays as it is: a list in it is no tuple.
    """
    def with_lists(made):
        return {name: list(value) if name == "things" else made(value) if name != "thing" and isinstance(value, tuple) else value
                for name, value in arguments.items()}

    return arguments, with_lists(lists_all_through), with_lists(list)


def listed_functions():
    """The triples of the module, the name and the arguments of each function that the document lists."""
    modules = {own.__name__.split(".")[1]: own
               for own in (words, machines, doings, loops, kept, tellings, keepers, shown, leastshown, piles, refuted, levels,
                           pilejudge, joins, judge, texts, desk)}
    return [(modules[file], name, arguments) for file, listed in INTERFACE.items()
            for name, arguments in re.findall(SIGNATURE, listed)]


def parts_of(value):
    """value and all that is in it."""
    if isinstance(value, (tuple, list)):
        return [value] + [part for own in value for part in parts_of(own)]
    return [value]


class CallsTest(unittest.TestCase):

    def test_lists_for_tuples_and_arguments_by_name(self):
        for own, arguments in CALLS:
            expected = repr(own(*arguments.values()))
            for each in mixed_kinds(arguments):
                self.assertEqual(repr(own(*each.values())), expected, own.__name__)
                self.assertEqual(repr(own(**each)), expected, own.__name__)
                self.assertEqual(repr(own(**dict(reversed(each.items())))), expected, own.__name__)

    def test_no_list_within_what_is_returned(self):
        for own, arguments in CALLS:
            for each in mixed_kinds(arguments):
                result = own(**each)
                inner = parts_of(result)[1:] if isinstance(result, list) else parts_of(result)
                self.assertEqual([part for part in inner if isinstance(part, list)], [], own.__name__)

    def test_arguments_are_not_changed(self):
        for own, arguments in CALLS:
            for each in mixed_kinds(arguments):
                kept = copy.deepcopy(each)
                own(**each)
                self.assertEqual(repr(each), repr(kept), own.__name__)

    def test_returned_lists_are_new(self):
        for own, arguments in CALLS:
            for each in mixed_kinds(arguments):
                result = own(**each)
                if isinstance(result, list):
                    expected = repr(result)
                    result.clear()
                    self.assertEqual(repr(own(**each)), expected, own.__name__)

    def test_what_is_returned_stays_when_arguments_are_changed_later(self):
        history, word, steps = [["in", 1], ["in", 2]], [1, 2], [[1, 0], [1, 0]]
        results = [words.stands("queue", history), words.heard_along("pile", 3, [0, 0], history), words.puts(word),
                   words.seen("queue", word, 2), words.seen("pile", word, 2), machines.least([steps, [1]])]
        expected = repr(results)
        history.clear()
        word.append(3)
        steps[0][0] = 0
        self.assertEqual(repr(results), expected)

    def test_errors(self):
        for own, arguments, error in REFUSED:
            for each in mixed_kinds(arguments):
                kept = copy.deepcopy(each)
                for call in (lambda: own(*each.values()), lambda: own(**each)):
                    with self.assertRaises(type(error)) as caught:
                        call()
                    self.assertIs(type(caught.exception), type(error))
                    self.assertEqual(vars(caught.exception), vars(error))
                self.assertEqual(repr(each), repr(kept), own.__name__)

    def test_truth_is_told_by_true_and_false(self):
        for own, arguments in CALLS:
            if own.__name__ in ("takes", "are_alike", "leads_back", "returns", "keeps_tails", "answer_behind", "parts",
                                "comes_of"):
                self.assertIsInstance(own(**arguments), bool)
            self.assertEqual(isinstance(own(**arguments), bool) or own.__name__[:3] != "is_", True, own.__name__)


class InterfaceTest(unittest.TestCase):

    def test_names_and_arguments(self):
        for module, name, arguments in listed_functions():
            with self.subTest(name=name):
                own = getattr(module, name)
                self.assertEqual(list(inspect.signature(own).parameters), arguments.split(", "), name)
                self.assertEqual(own.__module__, module.__name__)

    def test_the_calls_reach_each_function(self):
        reached = {own for own, _ in CALLS}
        for module, name, arguments in listed_functions():
            self.assertEqual(getattr(module, name) in reached, arguments != "thing", name)

    def test_errors(self):
        for name in ("NoPlace", "BadText", "CanNot", "TooMuch", "Unfit"):
            self.assertEqual(getattr(errors, name).__module__, "gonetold.errors")


if __name__ == "__main__":
    unittest.main()
