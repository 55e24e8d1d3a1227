"""What is kept together: complements, both, one of both, right quotients, and keepers of them."""

from gonetold.errors import Unfit
from gonetold.keepers import Mover, keeper_of
from gonetold.machines import leads, least, pair_ways, require_as_many_letters

MOST_JOINED_ROOMS = 1000


def other_way(machine):
    """Return the machine that takes just the words that machine does not take."""
    return with_ends(machine, [state not in machine[1] for state in range(len(machine[0]))])


def right_quotient(machine, word):
    """Return the machine that takes a word exactly if machine takes it with word behind it."""
    return with_ends(machine, [leads(machine, state, word) in machine[1] for state in range(len(machine[0]))])


def with_ends(machine, marks):
    """Return the least machine alike to machine with just the marked states as ends."""
    return least((machine[0], tuple([state for state, marked in enumerate(marks) if marked])))


def both_of(one, other):
    """Return the machine that takes the words that both take."""
    pairs = pairs_of(one, other)
    return paired(one, other, pairs, [pair[0] in one[1] and pair[1] in other[1] for pair in pairs])


def either_of(one, other):
    """Return the machine that takes the words that at least one of both takes."""
    pairs = pairs_of(one, other)
    return paired(one, other, pairs, [pair[0] in one[1] or pair[1] in other[1] for pair in pairs])


def pairs_of(one, other):
    """Return the pairs of states to which words lead 0 in both machines, the first pair first."""
    require_as_many_letters(one, other)
    return list(pair_ways(one[0], other[0], (0, 0)))


def paired(one, other, pairs, marks):
    """Return the least machine alike to that with these pairs as states, just the marked ones as ends."""
    places = {pair: at for at, pair in enumerate(pairs)}
    steps = [[places[target] for target in zip(one[0][left], other[0][right])] for left, right in pairs]
    return with_ends((steps, ()), marks)


def other_kept(keeper):
    """Return the keeper that answers the other way in each room."""
    return with_answers(keeper, [not answer for answer in keeper[3]])


def quotient_kept(keeper, word):
    """Return the keeper that answers as keeper does if the letters of word come in then, too."""
    if keeper[1] != 0 or not all([1 <= letter <= len(keeper[2]) for letter in word]):
        raise Unfit()
    mover = Mover(keeper)
    return with_answers(keeper, [keeper[3][room_behind(mover, room, word)] for room in range(len(keeper[3]))])


def room_behind(mover, begin, word):
    """Return the room to which a keeper that is shown nothing goes on from begin when the letters of word come in."""
    room = begin
    for letter in word:
        room = mover.next_room(room, ("in", letter), ())
    return room


def with_answers(keeper, answers):
    """Return keeper with these answers."""
    mode, shown, telling, _, begin, table = keeper
    rows = tuple([tuple([(tuple(heard), tuple(sight), room) for heard, sight, room in row]) for row in table])
    return mode, shown, tuple(telling), tuple(answers), begin, rows


def both_kept(one, other):
    """Return a keeper that answers True exactly if both do."""
    return joined_keeper(one, other, lambda left, right: left and right)


def either_kept(one, other):
    """Return a keeper that answers True exactly if at least one of both does."""
    return joined_keeper(one, other, lambda left, right: left or right)


def joined_keeper(one, other, answer):
    """Return the keeper whose rooms are pairs of those of both; answer tells what is answered by what both answer."""
    left, right = Mover(one), Mover(other)
    if (left.mode, left.shown, tuple(left.telling)) != (right.mode, right.shown, tuple(right.telling)):
        raise Unfit()

    def ahead(pair):
        rows = list(one[5][pair[0]]) + list(other[5][pair[1]])
        told = {(tuple(heard), tuple(sight)): True for heard, sight, _ in rows}
        return [(heard, sight, (left.next_room(pair[0], heard, sight), right.next_room(pair[1], heard, sight)))
                for heard, sight in sorted(told)]

    def answered(pair):
        return answer(left.answers[pair[0]], right.answers[pair[1]])

    begin = (left.begin, right.begin)
    return keeper_of(left.mode, left.shown, tuple(left.telling), begin, ahead, answered, MOST_JOINED_ROOMS)
