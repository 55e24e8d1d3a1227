"""Put together: gonetold/joins.py."""

import itertools
import unittest

from gonetold.errors import NoPlace, TooMuch, Unfit
from gonetold.joins import (both_kept, both_of, either_kept, either_of, other_kept, other_way, quotient_kept,
                            right_quotient)
from gonetold.keepers import answers_along, first_parting, is_keeper
from gonetold.kept import is_kept, made
from gonetold.levels import is_levelled, made_level
from gonetold.machines import least, letters_in
from gonetold.piles import is_kept_pile, made_pile
from gonetold.shown import is_kept_shown, made_shown
from gonetold.tellings import coarsest
from gonetold.words import outs, puts
from tests.oracles import (answers_plainly, least_plainly, led, levelled_machines, long_histories, ring, some_machines,
                           sound_histories, turning_machines, words_up_to)
from tests.papers import is_keeper_plainly
from tests.test_refuted import counting_keeper, moving_keeper

LAST, ODDS, SOME = (((1, 0), (1, 0)), (1,)), (((1, 0), (0, 1)), (1,)), (((1, 0), (1, 1)), (1,))
WIDE, PAIR = (((2, 1), (2, 1), (2, 3), (2, 1)), (2,)), (((1, 0), (2, 0), (2, 0)), (2,))
NOTHING, EVERYTHING = (((0, 0),), ()), (((1, 1), (0, 0)), (0, 1))
TWOS, BY_THREE = (((1, 2), (0, 0), (0, 0)), (1,)), (((1, 1), (2, 2), (0, 0)), (0,))
PARITY = ("queue", 0, (0,), (False, True), 0, (((("in", 1), (), 1), (("out", 0), (), 1)),
                                              ((("in", 1), (), 0), (("out", 0), (), 0))))
MACHINES = [LAST, ODDS, SOME, WIDE, PAIR, NOTHING, EVERYTHING, TWOS, BY_THREE] + some_machines(3, 2, 5)


def takes_plainly(machine, word):
    return led(machine, 0, word) in machine[1]


def joined_plainly(one, other, answer):
    """The keeper whose rooms are pairs, each gone through for all that may be heard and seen."""
    mode, shown, telling = one[:3]
    rooms, table = [(one[4], other[4])], []
    for left, right in rooms:
        told = sorted({own[:2] for own in one[5][left]} | {own[:2] for own in other[5][right]})
        row = []
        for heard, sight in told:
            pair = tuple(next((own[2] for own in keeper[5][room] if own[:2] == (heard, sight)), room)
                         for keeper, room in ((one, left), (other, right)))
            if pair not in rooms:
                rooms.append(pair)
            row.append((heard, sight, rooms.index(pair)))
        table.append(tuple(row))
    return mode, shown, telling, tuple(answer(one[3][left], other[3][right]) for left, right in rooms), 0, tuple(table)


class MachinesTest(unittest.TestCase):

    def check(self, made, taken, letters, longest=6):
        """Check that a machine is a least one and takes just the words of which taken is true."""
        self.assertEqual(made, least_plainly(made) if letters < 3 else least(made))
        for word in words_up_to(letters, longest):
            self.assertIs(takes_plainly(made, word), taken(word), (made, word))

    def test_other_way(self):
        for machine in MACHINES + [ring(1), ring(4), ((((0, 0, 1), (1, 0, 0))), (0,))]:
            self.check(other_way(machine), lambda word: not takes_plainly(machine, word), letters_in(machine), 5)
            self.assertEqual(other_way(other_way(machine)), least(machine))

    def test_both_and_either(self):
        for one, other in itertools.product(MACHINES, repeat=2):
            self.check(both_of(one, other), lambda word: takes_plainly(one, word) and takes_plainly(other, word), 2, 5)
            self.check(either_of(one, other), lambda word: takes_plainly(one, word) or takes_plainly(other, word), 2, 5)

    def test_of_one_letter_and_of_three(self):
        self.assertEqual(both_of(ring(2), ring(3)), ring(6))
        self.assertEqual(either_of(ring(4), ring(2)), ring(2))
        for one, other in itertools.product(some_machines(3, 3, 4), repeat=2):
            self.check(both_of(one, other), lambda word: takes_plainly(one, word) and takes_plainly(other, word), 3, 4)
            self.check(either_of(one, other), lambda word: takes_plainly(one, word) or takes_plainly(other, word), 3, 4)

    def test_right_quotient(self):
        for machine in MACHINES:
            for behind in words_up_to(2, 3):
                self.check(right_quotient(machine, behind), lambda word: takes_plainly(machine, word + behind), 2, 4)
            self.assertEqual(right_quotient(machine, ()), least(machine))

    def test_errors(self):
        for own in (both_of, either_of):
            for one, other in ((LAST, ring(2)), (ring(2), LAST)):
                with self.assertRaises(Unfit):
                    own(one, other)
        for word, place in (((3,), 3), ((1, 2, 4, 3), 4), ((0, 3), 0), ((10 ** 30,), 10 ** 30)):
            with self.assertRaises(NoPlace) as caught:
                right_quotient(LAST, word)
            self.assertEqual(caught.exception.place, place)

    def test_what_stays_kept(self):
        for machine in levelled_machines(2, 8) + turning_machines(3, 2, 4) + MACHINES:
            for telling in ((0, 0), (0, 1)):
                for far in [other_way(machine)] + [right_quotient(machine, word) for word in words_up_to(2, 2)]:
                    self.assertGreaterEqual(is_kept(far, telling), is_kept(machine, telling))
                    for shown in (0, 1, 2):
                        self.assertGreaterEqual(is_kept_shown(far, shown), is_kept_shown(machine, shown))
                        self.assertGreaterEqual(is_kept_pile(far, shown, telling), is_kept_pile(machine, shown, telling))


def right_pairs():
    """Pairs of machines with keepers of one mode, shown and telling that are right for them."""
    turning = turning_machines(3, 2, 4)
    levelled = [own for own in levelled_machines(2, 12) if is_levelled(own)][:4]
    pairs = [(one, made(one, (0, 1)), other, made(other, (0, 1))) for one in turning[:3] for other in (ODDS, TWOS)
             if is_kept(one, (0, 1))]
    pairs += [(one, made_level(one), other, made_level(other)) for one in levelled for other in (TWOS, BY_THREE)]
    pairs += [(one, made_pile(one, 1, (0, 0)), other, made_pile(other, 1, (0, 0))) for one in (LAST, ODDS, WIDE)
              for other in (TWOS, EVERYTHING) if is_kept_pile(other, 1, (0, 0))]
    pairs += [(one, made_pile(one, 0, (0, 1)), other, made_pile(other, 0, (0, 1))) for one in turning
              for other in (ODDS, BY_THREE)]
    return pairs + [(LAST, made_shown(LAST, 1), WIDE, made_shown(WIDE, 1)),
                    (PAIR, made_shown(PAIR, 2), LAST, made_shown(LAST, 2))]


class KeepersTest(unittest.TestCase):

    def test_right_for_machines_put_together(self):
        pairs = right_pairs()
        self.assertGreater(len(pairs), 20)
        for one, left, other, right in pairs:
            told = [(other_kept(left), other_way(one)), (both_kept(left, right), both_of(one, other)),
                    (either_kept(left, right), either_of(one, other))]
            if left[1] == 0:
                told += [(quotient_kept(left, word), right_quotient(one, word)) for word in words_up_to(2, 2)]
            for keeper, machine in told:
                self.assertIs(is_keeper(keeper), True)
                self.assertIsNone(first_parting(keeper, machine, 6), (keeper, machine))
                for history in long_histories(2, 200, 2):
                    self.assertEqual(answers_along(keeper, history)[-1], self.taken(keeper, machine, history))

    def taken(self, keeper, machine, history):
        word = ()
        for deed in history:
            word = word + (deed[1],) if deed[0] == "in" else (word[1:] if keeper[0] == "queue" else word[:-1])
        return takes_plainly(machine, word)

    def test_any_keepers_answer_together(self):
        for mode in ("queue", "pile"):
            for shown, telling in ((0, (0, 1)), (1, (0, 0)), (2, (0,)), (0, (0, 0, 1))):
                keepers = [moving_keeper(mode, shown, telling, rooms, rooms, left_out)
                           for rooms, left_out in ((1, 9), (3, 0), (2, 5), (4, 8))]
                keepers.append(counting_keeper(mode, shown, telling, 3))
                for one, other in itertools.product(keepers, repeat=2):
                    self.together(one, other)

    def together(self, one, other):
        both, either, turned = both_kept(one, other), either_kept(one, other), other_kept(one)
        self.assertEqual(both, joined_plainly(one, other, lambda left, right: left and right))
        self.assertEqual(either, joined_plainly(one, other, lambda left, right: left or right))
        self.assertIs(is_keeper_plainly(both), True)
        self.assertEqual(turned[:3] + turned[4:], one[:3] + one[4:])
        letters = len(one[2])
        for history in sound_histories(letters, {1: 6, 2: 4, 3: 3}[letters]):
            left, right = answers_plainly(one, history), answers_plainly(other, history)
            self.assertEqual(answers_plainly(both, history), [a and b for a, b in zip(left, right)])
            self.assertEqual(answers_plainly(either, history), [a or b for a, b in zip(left, right)])
            self.assertEqual(answers_plainly(turned, history), [not a for a in left])

    def test_quotients_of_any_keepers(self):
        for mode in ("queue", "pile"):
            for telling in ((0,), (0, 1), (0, 0)):
                for keeper in (moving_keeper(mode, 0, telling, 4, 1), moving_keeper(mode, 0, telling, 3, 2, 5)):
                    for word in words_up_to(len(telling), 3):
                        own = quotient_kept(keeper, word)
                        self.assertEqual(own[:3] + own[4:], keeper[:3] + keeper[4:])
                        for history in sound_histories(len(telling), 3):
                            self.assertEqual(answers_plainly(own, history)[-1],
                                             answers_plainly(keeper, history + puts(word))[-1])

    def test_a_room_without_a_triple(self):
        still = ("queue", 0, (0,), (True,), 0, ((),))
        self.assertEqual(both_kept(still, still), still)
        self.assertEqual(both_kept(still, PARITY), PARITY)
        self.assertEqual(either_kept(PARITY, still), PARITY[:3] + ((True, True),) + PARITY[4:])
        self.assertEqual(quotient_kept(still, (1,) * 9), still)

    def test_begin_may_be_another_room(self):
        late = PARITY[:4] + (1,) + PARITY[5:]
        self.assertEqual(other_kept(late), late[:3] + ((True, False),) + late[4:])
        self.assertEqual(quotient_kept(late, (1,)), late[:3] + ((True, False),) + late[4:])
        self.assertEqual(both_kept(late, late), PARITY[:3] + ((True, False),) + PARITY[4:])

    def test_unfit(self):
        pile = ("pile",) + PARITY[1:]
        more = ("queue", 1) + PARITY[2:]
        two = ("queue", 0, (0, 0)) + PARITY[3:]
        apart = ("queue", 0, (0, 1)) + PARITY[3:]
        for own in (both_kept, either_kept):
            for one, other in itertools.permutations((PARITY, pile, more, two, apart), 2):
                with self.assertRaises(Unfit):
                    own(one, other)
        for keeper, word in ((PARITY, (2,)), (PARITY, (1, 2)), (PARITY, (0,)), (more, ()), (more, (1,)), (two, (3,)),
                             (("pile", 2) + PARITY[2:], (1,)), (PARITY, (10 ** 30,))):
            with self.assertRaises(Unfit):
                quotient_kept(keeper, word)

    def test_too_much_just_above_1000_rooms(self):
        def counted(rooms):
            return counting_keeper("queue", 0, (0,), rooms)

        for own in (both_kept, either_kept):
            self.assertEqual(len(own(counted(8), counted(125))[3]), 1000)
            self.assertEqual(len(own(counted(1000), counted(500))[3]), 1000)
            for one, other in ((7, 143), (1000, 3), (1001, 1001)):
                with self.assertRaises(TooMuch):
                    own(counted(one), counted(other))

    def test_keepers_that_are_returned_are_right_for_what_goes(self):
        keeper = both_kept(made(ODDS, (0, 1)), other_kept(made(ODDS, (0, 1))))
        self.assertEqual(set(keeper[3]), {False})
        joined = either_kept(made(ODDS, coarsest(ODDS)), made(TWOS, (0, 1)))
        self.assertEqual([answers_along(joined, puts((1, 2, 2)) + outs(many))[-1] for many in range(4)],
                         [True, False, False, False])


if __name__ == "__main__":
    unittest.main()
