"""Keepers of what cannot be kept, refuted: two histories with one room, and what stands is taken behind just one."""

from gonetold.doings import doing_of
from gonetold.errors import Unfit
from gonetold.keepers import Mover, parts, require_letters_of, rooms_along
from gonetold.kept import is_kept, why_not
from gonetold.leastshown import idempotent_turn
from gonetold.machines import least, letters_in, parting_way, state_behind, takes, way_to
from gonetold.piles import bar_pile, is_kept_pile
from gonetold.shown import bar, is_kept_shown
from gonetold.words import Row, is_history_of, is_sound, outs, puts, stands


class Walk:
    """Letters that come in beside a keeper, and the room to which it goes on."""

    def __init__(self, keeper):
        self.mover = Mover(keeper)
        self.row = Row(self.mover.mode)
        self.room = self.mover.begin

    def come_in(self, word):
        """Let the letters of word come in, in order."""
        for letter in word:
            self.row.put(letter)
            self.room = self.mover.next_room(self.room, ("in", letter), self.row.open_end(self.mover.shown))


def is_kept_so(machine, mode, shown, telling):
    """Tell whether machine is kept in this mode with so many letters shown and this telling."""
    if mode == "pile":
        return is_kept_pile(machine, shown, telling)
    if shown > 0:
        return is_kept_shown(machine, shown)
    return is_kept(machine, telling)


def two_rows(keeper, machine):
    """Return two histories behind which keeper is in one room, while machine takes what stands behind just one."""
    require_letters_of(keeper, machine)
    mode, shown, telling = keeper[0], keeper[1], keeper[2]
    if is_kept_so(machine, mode, shown, telling):
        raise Unfit()
    one, other = pile_rows(keeper, machine) if mode == "pile" else queue_rows(keeper, machine)
    small = least(machine)
    pair = (state_behind(small, stands(mode, one)), state_behind(small, stands(mode, other)))
    tail = puts(parting_way(small, small, pair))
    return one + tail, other + tail


def queue_rows(keeper, machine):
    """Return two histories with one room, behind which what stands in a queue leads 0 to unlike states."""
    if keeper[1] > 0:
        gone, ahead = bar(machine, keeper[1])
        return block_rows(keeper, (), ahead + gone, ahead)
    reason = why_not(machine, keeper[2])
    if reason[0] == "lost":
        return block_rows(keeper, (), reason[1], ())
    if reason[0] == "tail":
        return block_rows(keeper, (), reason[2] + reason[1], ())
    _, ahead, one, other, tail = reason
    like, unlike = ahead + (one,) + tail, ahead + (other,) + tail
    many = len(keeper[3])
    return round_rows(keeper, puts(like * many + unlike + like * many), len(like), many)


def pile_rows(keeper, machine):
    """Return two histories with one room, behind which what stands in a pile leads 0 to unlike states."""
    found = bar_pile(machine, keeper[1], keeper[2])
    if found[0] == "unlike":
        return exchanged_rows(keeper, machine, found[1], found[2])
    _, top, turn = found
    block = idempotent_turn(machine, turn + top)
    once, behind_top = doing_of(machine, block), doing_of(machine, top)
    # Of the states to which top leads, the block leads some to one: so not each to itself.
    moved = [state for state, target in enumerate(behind_top) if once[target] != target]
    return block_rows(keeper, way_to(machine, moved[0]) + top, block, ())


def block_rows(keeper, head, block, tail):
    """Return two histories: few and many blocks come in behind head, with one room behind both, then tail behind them.

    As many letters as the few blocks have go out of both.
    """
    few, many = like_rounds(keeper, head, block)
    went = outs(few * len(block))
    return puts(head + block * few + tail) + went, puts(head + block * many + tail) + went


def like_rounds(keeper, head, block):
    """Return two numbers of blocks, from 1 on, the lesser first, with one room behind both, come in behind head."""
    walk = Walk(keeper)
    walk.come_in(head + block)
    many = 1
    met = {}
    while walk.room not in met:
        met[walk.room] = many
        walk.come_in(block)
        many += 1
    return met[walk.room], many


def round_rows(keeper, ins, size, many):
    """Return two histories with one room: so many blocks of size letters go out behind ins, and more."""
    # Each block that goes is heard alike: behind as many as there are rooms these go round.
    rooms = rooms_along(keeper, ins + outs(size * (many + len(keeper[3]))))[len(ins)::size]
    more = rooms[many + 1:].index(rooms[many]) + 1
    return ins + outs(size * many), ins + outs(size * (many + more))


def exchanged_rows(keeper, machine, one, other):
    """Return two histories with one room, made from letters of one token that each exchange states, but not alike."""
    many = len(keeper[3])
    like, unlike = doing_of(machine, (one,) * many + (one,)), doing_of(machine, (one,) * many + (other,))
    parted = [state for state, target in enumerate(like) if unlike[state] != target]
    ins = puts(way_to(machine, parted[0]) + (one,) * many + (other,) + (one,) * many)
    rows = round_rows(keeper, ins, 1, many)
    small = least(machine)
    # If what is left of both leads to one state, then what is left behind one out more does not.
    if state_behind(small, stands("pile", rows[0])) != state_behind(small, stands("pile", rows[1])):
        return rows
    return round_rows(keeper, ins, 1, many + 1)


def is_two_rows(keeper, machine, thing):
    """Tell whether thing is two sound histories with one room of keeper, of which one parts the two."""
    require_letters_of(keeper, machine)
    if not isinstance(thing, tuple) or len(thing) != 2:
        return False
    letters = letters_in(machine)
    if not all([is_history_of(history, letters) and is_sound(history) for history in thing]):
        return False
    one, other = thing
    if rooms_along(keeper, one)[-1] != rooms_along(keeper, other)[-1]:
        return False
    return takes(machine, stands(keeper[0], one)) != takes(machine, stands(keeper[0], other))


def refuted(keeper, machine):
    """Return a sound history behind which keeper answers wrongly."""
    one, other = two_rows(keeper, machine)
    return one if parts(keeper, machine, one) else other
