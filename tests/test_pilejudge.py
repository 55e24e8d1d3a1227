"""Piles' keepers, judged: gonetold/pilejudge.py."""

import unittest

from gonetold.errors import CanNot, TooMuch, Unfit
from gonetold.joins import other_kept
from gonetold.keepers import first_parting, parts
from gonetold.machines import least, letters_in
from gonetold.pilejudge import is_right, is_table, judged, least_table
from gonetold.piles import made_pile
from gonetold.tellings import tellings
from gonetold.words import outs, puts
from tests.oracles import (PIECES, changed, is_sound_plainly, jumping, led, levelled_machines, nested, ring,
                           some_machines, standings_plainly, turning_machines)
from tests.test_refuted import counting_keeper, moving_keeper, sights_of

ODD, LAST, SOME = (((1,), (0,)), (1,)), (((1, 0), (1, 0)), (1,)), (((1, 0), (1, 1)), (1,))
TURNS, PAIR = (((1, 1), (0, 2), (2, 0)), (0,)), (((1, 0), (2, 0), (2, 0)), (2,))
WIDE, NOTHING, ONE_LETTER = (((2, 1), (2, 1), (2, 3), (2, 1)), (2,)), (((0, 0),), ()), (((0,),), ())
BY_TURNS = ("pile", 0, (0,), (False, True), 0, (((("in", 1), (), 1), (("out", 0), (), 1)),
                                               ((("in", 1), (), 0), (("out", 0), (), 0))))
NEWEST = ("pile", 0, (0, 1), (False, True), 0, ((((("in", 1), (), 1)),), ((("in", 2), (), 0), (("out", 0), (), 0))))
STILL = ("pile", 3, (0, 0), (False,), 0, ((),))
MACHINES = ([ODD, LAST, SOME, TURNS, PAIR, WIDE, NOTHING] + turning_machines(3, 2, 2) + some_machines(3, 2, 4)
            + levelled_machines(1, 2) + some_machines(3, 3, 2) + some_machines(2, 1, 2))


def bent(keeper, seed, many):
    """Keepers like this one, each with one triple led to another room, one left out or one answer turned."""
    drawn, made = jumping(seed), []
    mode, shown, telling, answers, begin, table = keeper
    for at in range(many):
        room = drawn(len(table))
        row = list(table[room])
        own = list(answers)
        if at % 4 == 3 or not row:
            own[room] = not own[room]
        else:
            place = drawn(len(row))
            row[place:place + 1] = [] if at % 4 == 2 else [row[place][:2] + (drawn(len(table)),)]
        made.append((mode, shown, telling, tuple(own), begin, table[:room] + (tuple(row),) + table[room + 1:]))
    return made


def keepers_for(machine):
    """Keepers of piles of as many letters as machine: right ones, ones bent at one place, and others."""
    made, letters = [], letters_in(machine)
    for shown in (0, 1, 2):
        for telling in tellings(letters)[::2 if letters < 3 else 4]:
            try:
                own = made_pile(machine, shown, telling)
                made += [own] + bent(own, 7, 6 if letters < 3 else 2)
            except CanNot:
                pass
            made += [moving_keeper("pile", shown, telling, rooms, shown, left_out)
                     for rooms, left_out in ((1, 0), (2, 0), (3, 6))]
    return made + [counting_keeper("pile", 1, (0,) * letters, 3)]


def next_room(keeper, room, heard, sight):
    """The room to which a keeper goes on."""
    return next((target for ear, eye, target in keeper[5][room] if (ear, eye) == (heard, sight)), room)


def in_short(keeper, sight, letter):
    word = sight + (letter,)
    return word[len(word) - min(keeper[1], len(word)):]


def wanting(keeper, small, stands, turns):
    """The triples that two sets must have, too, as the table of the document says, line by line."""
    letters = range(1, len(keeper[2]) + 1)
    more_stands, more_turns = {(0, (), keeper[4])}, set()
    for state, sight, room in stands:
        more_turns.add((sight, room, room))
        for letter in letters:
            longer = in_short(keeper, sight, letter)
            more_stands.add((small[0][state][letter - 1], longer, next_room(keeper, room, ("in", letter), longer)))
        more_stands |= {(state, sight, target) for eye, begin, target in turns if (eye, begin) == (sight, room)}
    for sight, room, target in turns:
        for letter in letters:
            longer = in_short(keeper, sight, letter)
            begin = next_room(keeper, target, ("in", letter), longer)
            for eye, own, end in turns:
                if (eye, own) == (longer, begin):
                    went = ("out", keeper[2][letter - 1])
                    more_turns.add((sight, room, next_room(keeper, end, went, sight)))
    return more_stands - stands, more_turns - turns


def table_plainly(keeper, machine):
    """The least closed table: what is wanting is put in until nothing is."""
    small, stands, turns = least(machine), set(), set()
    while True:
        more_stands, more_turns = wanting(keeper, small, stands, turns)
        if not more_stands and not more_turns:
            return tuple(sorted(stands)), tuple(sorted(turns))
        stands |= more_stands
        turns |= more_turns


def reached(keeper, machine, deeds):
    """The triples (s, v, h) behind all sound histories of at most so many deeds."""
    small, level = least(machine), {(keeper[4], ())}
    met, found = set(level), set()
    for _ in range(deeds + 1):
        found |= {(led(small, 0, word), word[len(word) - min(keeper[1], len(word)):], room) for room, word in level}
        ahead = set()
        for room, word in level:
            for letter in range(1, len(keeper[2]) + 1):
                sight = in_short(keeper, word[len(word) - min(keeper[1], len(word)):], letter)
                ahead.add((next_room(keeper, room, ("in", letter), sight), word + (letter,)))
            if word:
                rest = word[:-1]
                went = ("out", keeper[2][word[-1] - 1])
                ahead.add((next_room(keeper, room, went, rest[len(rest) - min(keeper[1], len(rest)):]), rest))
        level = ahead - met
        met |= ahead
    return found


def fits_plainly(keeper, machine, stands):
    return all(keeper[3][room] == (state in least(machine)[1]) for state, _, room in stands)


def is_table_plainly(keeper, machine, thing):
    """Whether thing is a closed table that fits."""
    small, letters, rooms = least(machine), len(keeper[2]), len(keeper[3])
    if type(thing) is not tuple or [type(own) for own in thing] != [tuple, tuple]:
        return False
    if any(type(own) is not tuple or len(own) != 3 for row in thing for own in row):
        return False
    sights = sights_of(letters, keeper[1])
    for state, sight, room in thing[0]:
        if not is_place(state, len(small[0])) or not is_sight(sight, sights) or not is_place(room, rooms):
            return False
    for sight, room, target in thing[1]:
        if not is_sight(sight, sights) or not is_place(room, rooms) or not is_place(target, rooms):
            return False
    if any(list(row) != sorted(set(row)) for row in thing):
        return False
    return wanting(keeper, small, set(thing[0]), set(thing[1])) == (set(), set()) and fits_plainly(keeper, machine, thing[0])


def is_place(thing, many):
    return type(thing) is int and 0 <= thing < many


def is_sight(thing, sights):
    return type(thing) is tuple and all(type(letter) is int for letter in thing) and thing in sights


class JudgedTest(unittest.TestCase):

    def test_the_least_table_is_made_by_the_rules_alone(self):
        for machine in MACHINES[::2]:
            for keeper in keepers_for(machine)[::3]:
                table = least_table(keeper, machine)
                if len(table[0]) + len(table[1]) < 150:
                    self.assertEqual(table, table_plainly(keeper, machine), (keeper, machine))

    def test_stands_are_what_histories_lead_to(self):
        for machine in MACHINES:
            for keeper in keepers_for(machine):
                found = reached(keeper, machine, {1: 40, 2: 7, 3: 5}[letters_in(machine)])
                stands = least_table(keeper, machine)[0]
                self.assertLessEqual(found, set(stands))
                if letters_in(machine) == 1:
                    self.assertEqual(tuple(sorted(found)), stands, (keeper, machine))

    def test_all_four_agree_and_the_history_is_as_short_as_can_be(self):
        told = {}
        for machine in MACHINES:
            for keeper in keepers_for(machine):
                table = least_table(keeper, machine)
                verdict, paper = judged(keeper, machine)
                right = fits_plainly(keeper, machine, table[0])
                self.assertIs(is_right(keeper, machine), right)
                self.assertIs(is_table(keeper, machine, table), right)
                if right:
                    self.assertEqual((verdict, paper), ("right", table))
                    self.no_short_parting(keeper, machine)
                else:
                    self.assertEqual(verdict, "wrong")
                    self.shortest(keeper, machine, paper)
                told[verdict, len(paper) if verdict == "wrong" else 0] = True
        self.assertTrue({("right", 0), ("wrong", 0), ("wrong", 1), ("wrong", 3), ("wrong", 4)} <= set(told), told)

    def no_short_parting(self, keeper, machine):
        self.assertIsNone(first_parting(keeper, machine, {1: 10, 2: 6, 3: 4}[letters_in(machine)]))

    def shortest(self, keeper, machine, history):
        self.assertIs(is_sound_plainly(history), True)
        self.assertIs(parts(keeper, machine, history), True)
        try:
            self.assertEqual(len(first_parting(keeper, machine, len(history))), len(history), (keeper, machine, history))
        except TooMuch:
            self.assertGreater(len(history), 5)

    def test_a_keeper_that_goes_wrong_far_behind(self):
        # It counts the letters that stand round and round; in its last room it is wrong.
        for rooms in (2, 10, 60):
            keeper = ring_keeper(rooms, [room for room in range(rooms - 1) if room % 2 == 1])
            self.assertEqual(judged(keeper, ODD), ("wrong", puts((1,) * (rooms - 1))))
        # It is right until it hears two letters go, one behind the other, that came in behind two more.
        table = (((("in", 1), (), 1),), ((("in", 1), (), 2),), ((("in", 1), (), 3),), ((("in", 1), (), 4),),
                 ((("out", 0), (), 5),), ((("out", 0), (), 6),), ())
        keeper = ("pile", 0, (0,), (False,) * 6 + (True,), 0, table)
        self.assertEqual(judged(keeper, (((0,),), ())), ("wrong", puts((1,) * 4) + (("out",),) * 2))

    def test_turns_within_turns(self):
        # A letter 2 is heard to go only if between it and its coming all that came went: the rooms count that.
        table = (((("in", 1), (), 1), (("in", 2), (), 0)), ((("in", 2), (), 2),), ((("in", 1), (), 3),),
                 ((("out", 0), (), 4),), ((("out", 1), (), 5),), ((("in", 2), (), 6),), ((("out", 1), (), 7),),
                 ((("out", 0), (), 8),), ())
        keeper = ("pile", 0, (0, 1), (False,) * 8 + (True,), 0, table)
        own = [("in", 1), ("in", 2), ("in", 1), ("out",), ("out",), ("in", 2), ("out",), ("out",)]
        self.assertEqual(judged(keeper, NOTHING), ("wrong", tuple(own)))
        for shown in (1, 2):
            sights = [(), (1,), (1, 2), (1, 2, 1), (1, 2), (1,), (1, 2), (1,), ()]
            seen_table = tuple(tuple((ear, sights[target][-shown:], target) for ear, _, target in row if target)
                               for row in table)
            self.assertEqual(judged(("pile", shown) + keeper[2:5] + (seen_table,), NOTHING), ("wrong", tuple(own)))

    def test_turns_many_levels_deep(self):
        # So many letters must come in and go out with no other deed between: else it is in its last room for ever.
        for many in (1, 7, 200):
            table = [((("in", 1), (), room + 1), (("out", 0), (), 2 * many + 1)) for room in range(many)]
            table += [((("in", 1), (), 2 * many + 1), (("out", 0), (), room + 1)) for room in range(many, 2 * many)]
            answers = tuple(room == 2 * many for room in range(2 * many + 2))
            keeper = ("pile", 0, (0,), answers, 0, tuple(table) + ((), ()))
            self.assertEqual(judged(keeper, (((0,),), ())), ("wrong", puts((1,) * many) + (("out",),) * many))

    def test_the_shorter_of_two_ways_is_taken(self):
        # Twice in and out lead to the last room, and so do five letters that come in.
        keeper = keeper_by_names((0,), {"begin": {"in 1": "one"}, "one": {"in 1": "two", "out 0": "again"},
                                        "two": {"in 1": "three"}, "three": {"in 1": "four"}, "four": {"in 1": "last"},
                                        "again": {"in 1": "once more"}, "once more": {"out 0": "last"}})
        self.assertEqual(judged(keeper, ONE_LETTER), ("wrong", (puts((1,)) + outs(1)) * 2))
        # One way in four deeds with a turn, and one in three without.
        keeper = keeper_by_names((0,), {"begin": {"in 1": "one"}, "one": {"in 1": "two", "out 0": "again"},
                                        "two": {"in 1": "last"}, "again": {"in 1": "once more"}, "once more": {"out 0": "last"}})
        self.assertEqual(judged(keeper, ONE_LETTER), ("wrong", puts((1, 1, 1))))

    def test_one_wrong_room_told_off_by_a_counter(self):
        lengths = {}
        for seed in range(240):
            telling, machine = (((0,), ONE_LETTER), ((0, 0), NOTHING), ((0, 1), NOTHING))[seed % 3]
            rooms = 4 + seed % 5
            keeper = moving_keeper("pile", seed % 4 // 3, telling, rooms, seed, 3)
            keeper = keeper[:3] + (tuple(room == rooms - 1 for room in range(rooms)), 0, keeper[5])
            verdict, paper = judged(keeper, machine)
            if verdict == "wrong":
                self.shortest(keeper, machine, paper)
                lengths[len(paper)] = lengths.get(len(paper), 0) + 1
            else:
                self.assertEqual(paper, least_table(keeper, machine))
                self.no_short_parting(keeper, machine)
        self.assertGreater(max(lengths), 6, lengths)

    def test_tables_are_sets_of_tuples(self):
        stands, turns = least_table(NEWEST, LAST)
        self.assertEqual((list(stands), list(turns)), (sorted(set(stands)), sorted(set(turns))))
        self.assertEqual(least_table(STILL, NOTHING)[0][:3], ((0, (), 0), (0, (1,), 0), (0, (1, 1), 0)))


def keeper_by_names(telling, rows):
    """A keeper that is shown nothing, its rooms named: what is not told of a room leads to a dead end.

    It answers True in its room "last" alone.
    """
    names = list(rows) + ["last", "dead"]
    heard = [("in", letter) for letter in range(1, len(telling) + 1)] + [("out", token) for token in sorted(set(telling))]
    table = tuple(tuple((ear, (), names.index(rows.get(name, {}).get(f"{ear[0]} {ear[1]}", "dead"))) for ear in heard)
                  for name in names)
    return "pile", 0, telling, tuple(name == "last" for name in names), 0, table


def calling_keeper(depth, pairs, more):
    """A keeper that must hear one history, of four letters, to come to its room "last", and the number of its deeds.

    A letter 1 comes in; four times, for letters 1 to 4, a letter, depth letters 1 and these again go in and out; then a
    letter comes in and goes out, pairs times; the first letter goes out; more letters come in.
    """
    rows = {"begin": {"in 1": "call 1"}}
    for letter in range(1, 5):
        rows[f"call {letter}"] = {f"in {letter}": "down 0"}
    for at in range(depth):
        rows[f"down {at}"] = {"in 1": f"down {at + 1}"}
        rows[f"up {at + 1}"] = {"out 0": f"up {at}"}
    rows[f"down {depth}"] = {"out 0": f"up {depth - 1}"}
    del rows[f"up {depth}"]
    rows["up 0"] = {f"out {letter - 1}": f"call {letter + 1}" if letter < 4 else "even 0" for letter in range(1, 5)}
    for at in range(pairs):
        rows[f"even {at}"] = {"in 1": f"odd {at}"}
        rows[f"odd {at}"] = {"out 0": f"even {at + 1}"}
    rows[f"even {pairs}"] = {"out 0": "more 0"}
    for at in range(more):
        rows[f"more {at}"] = {"in 1": f"more {at + 1}"}
    named = {name: {ear: "last" if room == f"more {more}" else room for ear, room in row.items()}
             for name, row in rows.items()}
    return keeper_by_names((0, 1, 2, 3), named), 4 * (2 * depth + 2) + 2 * pairs + 2 + more


def ring_keeper(rooms, true=(0,)):
    """A keeper of one letter that counts what stands round and round, and answers True in these rooms."""
    table = tuple(((("in", 1), (), (room + 1) % rooms), (("out", 0), (), (room - 1) % rooms)) for room in range(rooms))
    return "pile", 0, (0,), tuple(room in true for room in range(rooms)), 0, table


def leaving_keeper(rooms, more):
    """A keeper of two letters: it counts round and round; a 2 in its first room leads it to more rooms, for ever.

    Of these it goes on to the next one at each in, and stays at each out: so turns lead from all rooms to all of them.
    """
    table = []
    for room in range(rooms):
        ahead, back = (room + 1) % rooms, (room - 1) % rooms
        table.append(((("in", 1), (), ahead), (("in", 2), (), ahead if room else rooms), (("out", 0), (), back)))
    for room in range(rooms, rooms + more):
        ahead = min(room + 1, rooms + more - 1)
        table.append(((("in", 1), (), ahead), (("in", 2), (), ahead)))
    return "pile", 0, (0, 0), (False,) * (rooms + more), 0, tuple(table)


class BoundsTest(unittest.TestCase):

    def test_too_much_just_above_2000_triples(self):
        # As many triples of each set as it has rooms.
        keeper = ring_keeper(1000)
        table = least_table(keeper, ring(1000))
        self.assertEqual((len(table[0]), len(table[1])), (1000, 1000))
        self.assertEqual((judged(keeper, ring(1000))[0], is_right(keeper, ring(1000))), ("right", True))
        for own in (least_table, judged, is_right):
            with self.assertRaises(TooMuch):
                own(ring_keeper(1001), ring(1001))
        # It is wrong at once: but all triples are made ahead of that.
        for own in (least_table, judged, is_right):
            with self.assertRaises(TooMuch):
                own(other_kept(ring_keeper(1001)), ring(1001))

    def test_of_2000_and_2001_triples(self):
        def many(rooms, more):
            return 2 * rooms + more + rooms * more + more * (more + 1) // 2

        for rooms, more in ((1, 1), (5, 1), (4, 2), (6, 3), (666, 1)):
            table = least_table(leaving_keeper(rooms, more), NOTHING)
            self.assertEqual(len(table[0]) + len(table[1]), many(rooms, more), (rooms, more))
        self.assertEqual((many(666, 1), many(499, 2)), (2000, 2001))
        for own in (least_table, judged, is_right):
            with self.assertRaises(TooMuch):
                own(leaving_keeper(499, 2), NOTHING)

    def test_too_much_just_above_600_deeds(self):
        never = (((0,),), ())
        self.assertEqual(judged(ring_keeper(1000, (600,)), never), ("wrong", puts((1,) * 600)))
        with self.assertRaises(TooMuch):
            judged(ring_keeper(1000, (601,)), never)
        self.assertIs(is_right(ring_keeper(1000, (601,)), never), False)
        self.assertEqual(judged(ring_keeper(1000, ()), never)[0], "right")

    def test_a_turn_of_600_deeds_and_one_deed_more(self):
        never = (((0,) * 4,), ())
        for depth, pairs, more in ((1, 0, 0), (2, 1, 2), (5, 0, 1), (73, 3, 0)):
            keeper, many = calling_keeper(depth, pairs, more)
            verdict, history = judged(keeper, never)
            self.assertEqual((verdict, len(history)), ("wrong", many))
            self.assertIs(parts(keeper, never, history), True)
            self.assertEqual(is_sound_plainly(history), True)
        self.assertEqual(calling_keeper(73, 3, 0)[1], 600)
        for depth, pairs, more in ((73, 3, 1), (73, 4, 0), (74, 0, 0)):
            self.assertGreater(calling_keeper(depth, pairs, more)[1], 600)
            with self.assertRaises(TooMuch):
                judged(calling_keeper(depth, pairs, more)[0], never)

    def test_is_table_knows_no_bound(self):
        stands = tuple((at, (), at) for at in range(1500))
        turns = tuple(((), at, at) for at in range(1500))
        self.assertIs(is_table(ring_keeper(1500), ring(1500), (stands, turns)), True)
        self.assertIs(is_table(ring_keeper(1500), ring(1500), (stands, turns[:-1])), False)
        self.assertIs(is_table(ring_keeper(1500), ring(1500), (stands[:700] + stands[701:], turns)), False)
        self.assertIs(is_table(other_kept(ring_keeper(1500)), ring(1500), (stands, turns)), False)

    def test_unfit_first_of_all(self):
        for keeper, machine in ((BY_TURNS, LAST), (NEWEST, ODD), (("queue",) + BY_TURNS[1:], ODD),
                                (("queue",) + NEWEST[1:], ODD), (ring_keeper(1001), LAST)):
            for own in (least_table, judged, is_right):
                with self.assertRaises(Unfit):
                    own(keeper, machine)
            for thing in (None, ((), ())):
                with self.assertRaises(Unfit):
                    is_table(keeper, machine, thing)


class IsTableTest(unittest.TestCase):

    RIGHT = ((BY_TURNS, ODD), (made_pile(LAST, 1, (0, 0)), LAST), (made_pile(TURNS, 0, (0, 1)), TURNS), (STILL, NOTHING),
             (moving_keeper("pile", 0, (0, 0), 2, 3)[:3] + ((False, False),) + moving_keeper("pile", 0, (0, 0), 2, 3)[4:],
              NOTHING))

    def test_things_near_tables(self):
        for keeper, machine in self.RIGHT[:3] + self.RIGHT[4:]:
            table = least_table(keeper, machine)
            self.assertIs(is_table(keeper, machine, table), True)
            told = 0
            for thing in changed(table):
                expected = is_table_plainly(keeper, machine, thing)
                self.assertIs(is_table(keeper, machine, thing), expected, repr(thing))
                told += expected
            self.assertGreater(told, 0)

    def test_with_one_triple_more_or_less(self):
        told = 0
        for keeper, machine in self.RIGHT:
            stands, turns = least_table(keeper, machine)
            sights = sights_of(len(keeper[2]), keeper[1])[:8]
            rooms = range(-1, len(keeper[3]) + 1)
            for triple in stands:
                self.assertIs(is_table(keeper, machine, (tuple(own for own in stands if own != triple), turns)), False)
            for triple in turns:
                self.assertIs(is_table(keeper, machine, (stands, tuple(own for own in turns if own != triple))), False)
            more = [(set(stands) | {(state, sight, room)}, turns) for sight in sights for room in rooms
                    for state in range(-1, len(least(machine)[0]) + 1)]
            more += [(stands, set(turns) | {(sight, room, target)}) for sight in sights for room in rooms
                     for target in rooms]
            for thing in [(tuple(sorted(own)), tuple(sorted(other))) for own, other in more]:
                expected = is_table_plainly(keeper, machine, thing)
                self.assertIs(is_table(keeper, machine, thing), expected, (keeper, thing))
                told += expected and thing != (stands, turns)
        self.assertGreater(told, 0)

    def test_greater_closed_tables_will_do(self):
        # All triples that may be, for a keeper that answers False everywhere.
        keeper = ("pile", 1, (0, 0), (False, False), 0, ((), ()))
        sights = sights_of(2, 1)
        stands = tuple(sorted((0, sight, room) for sight in sights for room in (0, 1)))
        turns = tuple(sorted((sight, room, target) for sight in sights for room in (0, 1) for target in (0, 1)))
        self.assertIs(is_table(keeper, NOTHING, (stands, turns)), True)
        self.assertIs(is_table(keeper, NOTHING, (stands, turns[1:])), False)
        self.assertIs(is_table(keeper, NOTHING, (stands[::-1], turns)), False)
        self.assertIs(is_table(keeper, NOTHING, (stands + stands[-1:], turns)), False)
        self.assertIs(is_table(keeper[:3] + ((False, True),) + keeper[4:], NOTHING, (stands, turns)), False)

    def test_what_is_seen_has_as_many_letters_as_are_shown(self):
        # All of these are closed but for that.
        for shown, longest, expected in ((0, 0, True), (0, 1, False), (1, 1, True), (1, 2, False), (3, 3, True), (1, 0, False)):
            keeper = ("pile", shown, (0,), (False,), 0, ((),))
            sights = [(1,) * many for many in range(longest + 1)]
            thing = (tuple((0, sight, 0) for sight in sights), tuple((sight, 0, 0) for sight in sights))
            self.assertIs(is_table(keeper, ONE_LETTER, thing), expected)

    def test_a_closed_table_that_does_not_fit(self):
        self.assertIs(is_table(NEWEST, LAST, least_table(NEWEST, LAST)), False)

    def test_other_things(self):
        deep = tuple(nested(levels, kind) for levels in (97, 99, 100) for kind in (tuple, list))
        stands, turns = least_table(BY_TURNS, ODD)
        for own in PIECES + deep:
            for thing in (own, (own, own), (stands, own), (own, turns), (stands + (own,), turns), (stands, (own,) + turns)):
                self.assertIs(is_table(BY_TURNS, ODD, thing), False)
        for thing in ([stands, turns], (list(stands), turns), (stands, list(turns)), (stands, turns, ()), (stands,),
                      (stands[::-1], turns), (stands, turns[::-1]), (stands + stands[1:], turns), (turns, stands),
                      (((False, (), 0),) + stands[1:], turns), (((0, (), 0), (True, (), True)), turns),
                      (((0, [], 0),) + stands[1:], turns), (((0, (1,), 0),) + stands, turns)):
            self.assertIs(is_table(BY_TURNS, ODD, thing), False, thing)

    def test_one_triple_of_stands_with_another_answer(self):
        standings = standings_plainly("pile", puts((1, 1)))
        self.assertEqual(standings, [(), (1,), (1, 1)])
        for room in (0, 1):
            answers = tuple(own != (at == room) for at, own in enumerate(BY_TURNS[3]))
            keeper = BY_TURNS[:3] + (answers,) + BY_TURNS[4:]
            self.assertIs(is_table(keeper, ODD, least_table(keeper, ODD)), False)
            self.assertEqual(judged(keeper, ODD), ("wrong", puts((1,) * room)))


if __name__ == "__main__":
    unittest.main()
