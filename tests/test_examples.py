"""The examples of the document, word for word, section by section, and those of README.md."""

import doctest
import os
import unittest

from gonetold import (desk, doings, errors, joins, judge, keepers, kept, leastshown, levels, loops, machines, pilejudge, piles,
                      refuted, shown, tellings, texts, words)
from tests.examples import run_examples, steps_of

WORDS = '''
    >>> mixed = (("in", 1), ("in", 2), ("out",), ("in", 2), ("in", 3), ("out",))
    >>> is_sound(mixed), is_sound(mixed[2:]), stands("queue", mixed), stands("pile", mixed), letters_out("queue", mixed), letters_out("pile", mixed)
    (True, False, (2, 3), (1, 2), (1, 2), (2, 3))
    >>> standings("pile", mixed)
    [(), (1,), (1, 2), (1,), (1, 2), (1, 2, 3), (1, 2)]
    >>> seen("queue", (1, 2, 3), 2), seen("pile", (1, 2, 3), 2), seen("pile", (1,), 2), seen("queue", (1, 2), 0)
    ((1, 2), (2, 3), (1,), ())
    >>> heard_along("queue", 1, (0, 0, 1), mixed)
    [(('in', 1), (1,)), (('in', 2), (1,)), (('out', 0), (2,)), (('in', 2), (2,)), (('in', 3), (2,)), (('out', 0), (2,))]
    >>> heard_along("pile", 0, (0, 1, 2), mixed)[2:4], puts((2, 1)) + outs(1), histories_of(1, 3), len(histories_of(2, 4))
    ([(('out', 1), ()), (('in', 2), ())], (('in', 2), ('in', 1), ('out',)), [(('in', 1), ('in', 1), ('in', 1)), (('in', 1), ('in', 1), ('out',)), (('in', 1), ('out',), ('in', 1))], 48)
    >>> is_deed(("out", 1)), is_deed(("in", 0)), is_history([("in", 1)]), is_history((("out",),)), is_word((1, True)), is_mode("stack")
    (False, False, False, True, False, False)
    >>> stands("queue", (("out",),))
    raises Unfit()
    >>> heard_along("pile", 0, (0, 1), mixed)
    raises NoPlace(place=3)
'''

MACHINES = '''
    >>> last, odds, some = (((1, 0), (1, 0)), (1,)), (((1, 0), (0, 1)), (1,)), (((1, 0), (1, 1)), (1,))
    >>> wide = (((2, 1), (2, 1), (2, 3), (2, 1)), (2,))
    >>> least(wide) == last, are_alike(wide, last), parting_word(last, odds), takes(odds, (1, 2, 1))
    (True, True, (1, 1), False)
    >>> leads(wide, 0, (2, 1, 2)), state_behind(odds, (1, 2)), letters_in(wide)
    (3, 1, 2)
    >>> way_to(last, 1), way_back(last, 1), way_back(some, 0), leads_back(last), leads_back(some)
    ((1,), (2,), (), True, False)
    >>> [is_machine(own) for own in (last, (((1, 0),), ()), ([[0]], ()), (((0,), (0, 0)), ()), (((0,),), (0, 0)))]
    [True, False, False, False, False]
    >>> way_back(some, 1)
    raises CanNot()
    >>> takes(last, (1, 3, 4))
    raises NoPlace(place=3)
    >>> are_alike(last, (((0,),), ()))
    raises Unfit()
'''

DOINGS = '''
    >>> turns = (((1, 1), (2, 0), (0, 2)), (0,))
    >>> doings(turns), doing_of(turns, (1, 2)), word_for(turns, (2, 1, 0)), one_of(turns)
    ([(0, 1, 2), (1, 2, 0), (1, 0, 2), (2, 0, 1), (0, 2, 1), (2, 1, 0)], (0, 2, 1), (2, 1), (0, 1, 2))
    >>> doings(last), idempotents(last), idempotents(turns), images(last), images(turns)
    ([(0, 1), (1, 1), (0, 0)], [(1, 1), (0, 0)], [(0, 1, 2)], ((0,), (0, 1), (1,)), ((0, 1, 2),))
    >>> lap_of((1, 2, 0)), lap_of((1, 2, 2)), idempotent_power((1, 2, 2)), image_of((1, 2, 2)), rank_of((1, 2, 2)), is_idempotent((0, 0))
    ((1, 3), (2, 1), (2, 2, 2), (1, 2), 2, True)
    >>> then((1, 2, 0), (1, 0, 2)), doing_of((((2, 1), (2, 1), (2, 3), (2, 1)), (2,)), (1,))
    ((0, 2, 1), (1, 1))
    >>> word_for(last, (1, 0))
    raises CanNot()
    >>> doing_of(last, (3,))
    raises NoPlace(place=3)
'''

LOOPS = '''
    >>> twos = (((1, 2), (0, 0), (0, 0)), (1,))
    >>> [returns(twos, own) for own in ((), (1,), (2, 1))], returns_machine(twos), keeps_tails(twos), keeps_tails(last), keeps_tails(some)
    ([True, False, True], (((1, 1), (0, 0)), (0,)), True, False, False)
    >>> breaker(last), lost_word(some), [is_breaker(last, own) for own in (((1, 1), (2,)), ((2,), (2,)), ((1,), ()), [(1,), (2,)], ((1,), (3,)))]
    (((1,), (2,)), (1,), [True, False, False, False, False])
    >>> first_returns(twos, 4), first_returns(odds, 3), first_returns(some, 2)
    ([(1, 1), (1, 2), (2, 1), (2, 2)], [(2,), (1, 1), (1, 2, 1)], [(2,)])
    >>> breaker(twos)
    raises CanNot()
    >>> lost_word(last)
    raises CanNot()
'''

KEPT = '''
    >>> twos, last = (((1, 2), (0, 0), (0, 0)), (1,)), (((1, 0), (1, 0)), (1,))
    >>> odds, some = (((1, 0), (0, 1)), (1,)), (((1, 0), (1, 1)), (1,))
    >>> [is_kept(*own) for own in ((twos, (0, 0)), (last, (0, 1)), (odds, (0, 0)), (odds, (0, 1)), (some, (0, 1)))]
    [True, False, False, True, False]
    >>> is_why_not(last, (0, 1), ("tail", (1,), (2,))), is_why_not(last, (0, 1), ("tail", (2,), (2,))), is_why_not(some, (0, 1), ("lost", (1,)))
    (True, False, True)
    >>> [is_why_not(odds, own, ("unlike", (), 2, 1, ())) for own in ((0, 0), (0, 1))], is_why_not(odds, (0, 0), why_not(odds, (0, 0)))
    ([True, False], True)
    >>> doing_of(twos, (1, 2, 1)), left_state(twos, doing_of(twos, (1, 1)), (1, 0, 0)), left_state(twos, (1, 0, 0), (1, 0, 0))
    ((1, 0, 0), 1, 0)
    >>> keeper = made(twos, (0, 0))
    >>> keeper[:3], [answer_behind(keeper, puts((2, 1, 1)) + outs(own)) for own in (0, 1, 2, 3)]
    (('queue', 0, (0, 0)), [True, False, True, False])
    >>> made(last, (0, 0))
    raises CanNot()
    >>> why_not(twos, (0, 1))
    raises CanNot()
    >>> is_kept(twos, (0, 0, 1))
    raises Unfit()
'''

TELLINGS = '''
    >>> tellings(3), is_telling((0, 2)), is_telling((1, 0)), is_telling((0, 1, 0, 2))
    ([(0, 0, 0), (0, 0, 1), (0, 1, 0), (0, 1, 1), (0, 1, 2)], False, False, True)
    >>> told((0, 1, 0), (3, 2, 1)), spread((0, 1, 0), (0, 1)), stand_in((0, 1, 0), (3, 2, 1)), spread((0, 1, 0), ())
    ((0, 1, 0), [(1, 2), (3, 2)], (1, 2, 1), [()])
    >>> is_finer((0, 1, 2), (0, 1, 1)), is_finer((0, 0, 1), (0, 1, 1)), joined((0, 0, 1), (0, 1, 1)), met((0, 0, 1), (0, 1, 1)), joined((0, 1, 2, 1), (0, 1, 2, 2))
    (True, False, (0, 0, 0), (0, 1, 2), (0, 1, 1, 1))
    >>> turns = (((1, 0, 2), (2, 1, 0), (0, 2, 1)), (0,))
    >>> coarsest(odds), coarsest(twos), good_tellings(odds), good_tellings(twos), good_tellings(last)
    ((0, 1), (0, 0), [(0, 1)], [(0, 0), (0, 1)], [])
    >>> coarsest(turns), coarsest((((1, 0, 1), (0, 1, 0)), (1,)))
    ((0, 1, 2), (0, 1, 0))
    >>> coarsest(last)
    raises CanNot()
    >>> told((0, 1, 0), (3, 4))
    raises NoPlace(place=4)
    >>> joined((0, 0), (0, 0, 1))
    raises Unfit()
'''

KEEPERS = '''
    >>> last, odds = (((1, 0), (1, 0)), (1,)), (((1, 0), (0, 1)), (1,))
    >>> ones = ("queue", 0, (0, 1), (False, True), 0, (((("in", 1), (), 1), (("out", 0), (), 1)), ((("in", 1), (), 0), (("out", 0), (), 0))))
    >>> is_keeper(ones), is_keeper(ones[:4] + (2, ones[5])), is_keeper(ones[:5] + (ones[5] + ((),),)), is_keeper(("queue", 0, (0, 0)) + ones[3:])
    (True, False, False, True)
    >>> rooms_along(ones, puts((1, 2, 1)) + outs(2)), answers_along(ones, puts((1, 2, 1)) + outs(2)), answer_behind(ones, ())
    ([0, 1, 1, 0, 1, 1], [False, True, True, False, True, True], False)
    >>> first_parting(ones, odds, 6), first_parting(ones, last, 6), parts(ones, last, puts((1, 1))), parts(ones, odds, puts((1, 1)))
    (None, (('in', 1), ('in', 1)), True, False)
    >>> first_parting(("queue", 0, (0, 0)) + ones[3:], odds, 6)
    (('in', 2), ('out',))
    >>> rooms_along(ones, outs(1))
    raises Unfit()
    >>> answer_behind(ones, puts((1, 3)))
    raises NoPlace(place=3)
'''

SHOWN = '''
    >>> last, some, odds = (((1, 0), (1, 0)), (1,)), (((1, 0), (1, 1)), (1,)), (((1, 0), (0, 1)), (1,))
    >>> [[is_kept_shown(own, shown) for shown in (0, 1, 2)] for own in (last, some, odds)]
    [[False, True, True], [False, False, False], [True, True, True]]
    >>> [is_bar(last, *own) for own in ((0, ((1,), ())), (0, ((2,), ())), (1, ((1,), (2,))), (0, ((1,), (1,))))], is_bar(some, 2, ((1,), (2, 2)))
    ([True, False, False, False], True)
    >>> is_bar(some, 3, bar(some, 3)), is_bar(last, 0, bar(last, 0))
    (True, True)
    >>> keeper = made_shown(last, 1)
    >>> keeper[:3], [answer_behind(keeper, puts((2, 1, 2, 1)) + outs(own)) for own in range(5)], first_parting(keeper, last, 5)
    (('queue', 1, (0, 0)), [True, True, True, True, False], None)
    >>> made_shown(odds, 0)[:3], answer_behind(made_shown(odds, 0), puts((1, 2, 1)) + outs(1))
    (('queue', 0, (0, 1)), True)
    >>> made_shown(some, 4)
    raises CanNot()
    >>> bar(odds, 0)
    raises CanNot()
'''

LEAST_SHOWN = '''
    >>> last, some, odds = (((1, 0), (1, 0)), (1,)), (((1, 0), (1, 1)), (1,)), (((1, 0), (0, 1)), (1,))
    >>> pair = (((1, 0), (2, 0), (2, 0)), (2,))
    >>> [least_shown(own) for own in (odds, last, pair, some)]
    [0, 1, 2, None]
    >>> barred(last, 0), barred(last, 1), barred(some, 5), barred(pair, 1)
    (((0, (1,)),), (), ((0, (1,)),), ((1, (2,)),))
    >>> is_bar(pair, 1, longest_bar(pair)), is_never_paper(some, never_paper(some))
    (True, True)
    >>> [is_never_paper(some, own) for own in (((), (1,), (2,)), ((2,), (2, 1), (2, 2)), ((), (1,), ()), ((1,), (1,), (2,)), ((), (2,), (2,)))]
    [True, True, False, False, False]
    >>> longest_bar(odds)
    raises CanNot()
    >>> never_paper(pair)
    raises CanNot()
'''

PILES = r'''
    >>> odd, last, any_one = (((1,), (0,)), (1,)), (((1, 0), (1, 0)), (1,)), (((1, 0), (1, 1)), (1,))
    >>> turns = (((1, 1), (0, 2), (2, 0)), (0,))
    >>> [least_pile(own) for own in (odd, last, any_one, turns)], [least_rank(own) for own in (odd, last, any_one, turns)]
    ([0, 1, None, 0], [2, 1, 1, 3])
    >>> made_pile(odd, 0, (0,))
    ('pile', 0, (0,), (False, True), 0, (((('in', 1), (), 1), (('out', 0), (), 1)), ((('in', 1), (), 0), (('out', 0), (), 0))))
    >>> is_kept_pile(last, 0, (0, 1)), is_kept_pile(last, 1, (0, 0)), is_kept_pile(turns, 0, (0, 0)), is_kept_pile(turns, 0, (0, 1))
    (False, True, False, True)
    >>> len(made_pile(last, 1, (0, 0))[3]), made_pile(last, 1, (0, 0))[5][1]
    (3, ((('in', 1), (1,), 1), (('in', 2), (2,), 2), (('out', 0), (), 0), (('out', 0), (1,), 1), (('out', 0), (2,), 2)))
    >>> is_bar_pile(last, 0, (0, 1), ("sink", (), (1,))), is_bar_pile(any_one, 2, (0, 1), ("sink", (2, 2), (1,))), is_bar_pile(turns, 0, (0, 0), ("unlike", 1, 2)), is_bar_pile(last, 1, (0, 0), ("sink", (1,), (2,)))
    (True, True, True, False)
    >>> made_pile(any_one, 3, (0, 1))
    raises CanNot()
'''

REFUTED = r'''
    >>> last, some, odds = (((1, 0), (1, 0)), (1,)), (((1, 0), (1, 1)), (1,)), (((1, 0), (0, 1)), (1,))
    >>> ones = ("queue", 0, (0, 1), (False, True), 0, (((("in", 1), (), 1), (("out", 0), (), 1)), ((("in", 1), (), 0), (("out", 0), (), 0))))
    >>> blind = ("queue", 0, (0, 0)) + ones[3:]
    >>> [parts(own, far, refuted(own, far)) for own, far in ((ones, last), (ones, some), (blind, odds))]
    [True, True, True]
    >>> [is_two_rows(own, far, two_rows(own, far)) for own, far in ((ones, last), (blind, odds))]
    [True, True]
    >>> is_two_rows(ones, last, (puts((1, 1)), ())), is_two_rows(ones, last, (puts((1,)), ())), is_two_rows(blind, odds, (puts((2,)) + outs(1), puts((1,))))
    (True, False, True)
    >>> seeing = ("queue", 2, (0, 0), (False,), 0, ((),))
    >>> parts(seeing, some, refuted(seeing, some)), parts(("pile",) + ones[1:], last, refuted(("pile",) + ones[1:], last))
    (True, True)
    >>> two_rows(ones, odds)
    raises Unfit()
    >>> refuted(ones, (((0,),), ()))
    raises Unfit()
'''

LEVELS = r'''
    >>> odd, last, by_two = (((1,), (0,)), (1,)), (((1, 0), (1, 0)), (1,)), (((1, 2), (0, 0), (0, 0)), (1,))
    >>> [is_levelled(own) for own in (odd, last, by_two)], level_of(odd), level_of(by_two), levels(by_two), unlevelled(last)
    ([True, False, True], 2, 2, ((0,), (1, 2)), ((1,), (1, 1)))
    >>> level_rows(odd), fewest_rooms(by_two), row_of(by_two, (1, 2, 1)), row_of(by_two, (2, 1))
    (((0, 1), (1, 0)), 4, (1, 0), (0, 1))
    >>> made_level(odd)
    ('queue', 0, (0,), (False, True), 0, (((('in', 1), (), 1), (('out', 0), (), 1)), ((('in', 1), (), 0), (('out', 0), (), 0))))
    >>> len(made_level(by_two)[3]), made_level(by_two)[5][0]
    (4, ((('in', 1), (), 1), (('in', 2), (), 2), (('out', 0), (), 1)))
    >>> level_of(last)
    raises CanNot()
    >>> row_of(by_two, (1,))
    raises Unfit()
'''

PILE_JUDGE = r'''
    >>> odd, last = (((1,), (0,)), (1,)), (((1, 0), (1, 0)), (1,))
    >>> by_turns = ("pile", 0, (0,), (False, True), 0, (((("in", 1), (), 1), (("out", 0), (), 1)), ((("in", 1), (), 0), (("out", 0), (), 0))))
    >>> judged(by_turns, odd)
    ('right', (((0, (), 0), (1, (), 1)), (((), 0, 0), ((), 1, 1))))
    >>> newest = ("pile", 0, (0, 1), (False, True), 0, ((((("in", 1), (), 1)),), ((("in", 2), (), 0), (("out", 0), (), 0))))
    >>> judged(newest, last)[0], len(judged(newest, last)[1]), is_right(newest, last), least_table(newest, last)
    ('wrong', 3, False, (((0, (), 0), (1, (), 0), (1, (), 1)), (((), 0, 0), ((), 1, 0), ((), 1, 1))))
    >>> is_table(by_turns, odd, (((0, (), 0), (1, (), 1)), (((), 0, 0), ((), 1, 1)))), is_table(by_turns, odd, (((0, (), 0),), (((), 0, 0),)))
    (True, False)
    >>> judged(by_turns, last)
    raises Unfit()
'''

JOINS = r'''
    >>> other_way(last), right_quotient(odds, (1,)) == other_way(odds), right_quotient(last, (1, 2))
    ((((1, 0), (1, 0)), (0,)), True, (((0, 0),), ()))
    >>> [takes(both_of(last, odds), own) for own in ((1,), (1, 1), (1, 1, 1), (1, 2))], [takes(either_of(last, odds), own) for own in ((), (1, 1), (1, 2), (2, 2))]
    ([True, False, True, False], [False, True, True, False])
    >>> step, back = (("in", 1), (), 1), (("in", 1), (), 0)
    >>> parity = ("queue", 0, (0,), (False, True), 0, ((step, (("out", 0), (), 1)), (back, (("out", 0), (), 0))))
    >>> other_kept(parity)[3], both_kept(parity, parity) == parity, quotient_kept(parity, (1, 1, 1))[3]
    ((True, False), True, (True, False))
    >>> both_kept(parity, other_kept(parity))[3], either_kept(parity, other_kept(parity))[3]
    ((False, False), (True, True))
    >>> both_kept(parity, ("pile",) + parity[1:])
    raises Unfit()
    >>> quotient_kept(parity, (2,))
    raises Unfit()
'''

JUDGE = r'''
    >>> odd, newest = (((1,), (0,)), (1,)), (((1, 0), (1, 0)), (1,))
    >>> verdicts((("kept", odd, (0,)), ("kept", newest, (0, 1)), ("coarsest", odd, (0,)), ("coarsest", newest, (0, 1))), ((), ("tail", (1,), (2,)), (), ("tail", (1,), (2,))))
    ['for', 'against', 'for', 'against']
    >>> verdicts((("level", odd, 2), ("level", odd, 1), ("level", newest, 1)), ((), 2, 0))
    ['for', 'against', 'against']
    >>> verdicts((("shown", newest, 0), ("shown", newest, 1), ("never", newest)), (((1,), ()), (), 1))
    ['against', 'for', 'against']
    >>> twos, blind = ("pile", 0, (0,), (False, True), 0, (((("in", 1), (), 1), (("out", 0), (), 1)), ((("in", 1), (), 0), (("out", 0), (), 0)))), ("pile", 0, (0,), (False,), 0, ((),))
    >>> verdicts((("pile", odd, 0, (0,)), ("pile", newest, 0, (0, 1)), ("right", twos, odd), ("right", blind, odd)), (twos, ("sink", (), (1,)), (((0, (), 0), (1, (), 1)), (((), 0, 0), ((), 1, 1))), (("in", 1),)))
    ['for', 'against', 'for', 'against']
    >>> comes_of(("shown", odd, 3), (("level", odd, 2),)), comes_of(("kept", newest, (0, 1)), (("kept", newest, (0, 0)),)), comes_of(("kept", newest, (0, 0)), (("kept", newest, (0, 1)),))
    (True, True, False)
    >>> is_so(("level", odd, 0))
    raises Unfit()
'''

TEXTS = r'''
    >>> odd = (((1, 0), (0, 1)), (1,))
    >>> machine_text(odd), telling_text((0, 1, 0)), word_text((2, 1)), word_text(()), history_text((("in", 2), ("out",), ("in", 1)))
    ('machine\nstate 1 0\nend 0 1', 'telling 0 1 0', 'word 2 1', 'word', 'history 2 - 1')
    >>> machine_read(machine_text(odd)) == odd, history_read("history"), history_read("history - 3"), telling_read("telling 0 0 1")
    (True, (), (('out',), ('in', 3)), (0, 0, 1))
    >>> kept = ("pile", 1, (0, 0), (True, False), 0, (((("in", 1), (1,), 1), (("out", 0), (), 0)), ()))
    >>> keeper_text(kept)
    'keeper pile 1 0\ntelling 0 0\nyes\nin 1 1 to 1\nout 0 to 0\nno'
    >>> keeper_read(keeper_text(kept)) == kept
    True
    >>> machine_read("machine\nstate 1 0\nend 0")
    raises BadText(3)
    >>> machine_read("machine\nstate 2 0\nend 0 1")
    raises BadText(4)
    >>> keeper_read("keeper pile 1 0\ntelling 0 0\nyes\nin 1 1 2 to 0")
    raises BadText(4)
    >>> telling_read("telling 0 2")
    raises BadText(1)
'''

DESK = r'''
    >>> desk("kept\nmake\nin 1\nin 1\nout\nstands\ntakes\nanswer\nlevel\ncoarsest\nleast\nundo\nstands\nclear\nanswer\nin 2\npile 0\nkept\nanswer")
    ['yes', 'done', 'done', 'done', 'done', '1', 'yes', 'yes', '2', '0', '0', 'out', '1 1', 'done', 'no', 'refused NoPlace', 'done', 'yes', 'refused CanNot']
    >>> desk("machine\n machine\n state 1 0\n end 1 0\nkept\nmake\nanswer\ncoarsest\nlevel\nleast\nqueue 1\nkept\nmake\nin 2\nin 1\nanswer\nout\nout\nout\nstands\ntelling\n telling 0\npile 1\nleast\ntelling\n telling 0 x")
    ['done', 'no', 'refused CanNot', 'refused CanNot', 'refused CanNot', 'refused CanNot', '1', 'done', 'yes', 'done', 'done', 'done', 'yes', 'done', 'done', 'refused CanNot', '-', 'refused Unfit', 'done', '1', 'refused BadText']
    >>> desk("keeper\n keeper pile 0 0\n telling 0\n no\nin 1\nroom\nanswer\nundo\nundo\nanswer\nundo")
    ['done', 'done', '0', 'no', 'in', 'keeper', 'refused CanNot', 'refused CanNot']
    >>> is_request("in 12"), is_request("in"), is_request("machine"), is_request("telling\n x"), is_request("queue 01"), is_request("out 1")
    (True, False, False, True, False, False)
    >>> desk("out\n\nin 1")
    raises BadText(2)
'''


SECTIONS = ((words, WORDS, 8), (machines, MACHINES, 7), (doings, DOINGS, 6), (loops, LOOPS, 5), (kept, KEPT, 8),
            (tellings, TELLINGS, 8), (keepers, KEEPERS, 6), (shown, SHOWN, 7), (leastshown, LEAST_SHOWN, 6),
            (piles, PILES, 6), (refuted, REFUTED, 6), (levels, LEVELS, 6), (pilejudge, PILE_JUDGE, 4),
            (joins, JOINS, 6), (judge, JUDGE, 6), (texts, TEXTS, 8), (desk, DESK, 5))


class ExamplesTest(unittest.TestCase):

    def test_each_section_with_the_names_of_those_ahead_of_it(self):
        names = {}
        for module in (errors,) + tuple(module for module, _, _ in SECTIONS):
            names.update(vars(module))
        for module, text, many in SECTIONS:
            with self.subTest(section=module.__name__):
                run_examples(self, text, names)
                self.assertEqual(len([1 for _, expected in steps_of(text) if expected is not None]), many)

    def test_readme(self):
        readme = os.path.join(os.path.dirname(os.path.dirname(os.path.abspath(__file__))), "README.md")
        failed, tried = doctest.testfile(readme, module_relative=False)
        self.assertEqual(failed, 0)
        self.assertGreater(tried, 0)


if __name__ == "__main__":
    unittest.main()
