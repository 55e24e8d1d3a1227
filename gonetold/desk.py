"""A desk: requests in lines of text, worked from top to bottom, and what is replied to them."""

from gonetold.errors import BadText, CanNot, NoPlace, TooMuch, Unfit
from gonetold.keepers import answer_behind, rooms_along
from gonetold.kept import made
from gonetold.leastshown import least_shown
from gonetold.levels import level_of
from gonetold.machines import letters_in, takes
from gonetold.piles import least_pile, made_pile
from gonetold.refuted import is_kept_so, refuted
from gonetold.shown import made_shown
from gonetold.tellings import coarsest, telling_for
from gonetold.texts import history_text, keeper_read, line_of, lines_in, machine_read, number_in, telling_read
from gonetold.words import stands

MOST_FIGURES = 6


class Desk:
    """What is held, and how all was ahead of each deed that was done and not taken back."""

    def __init__(self):
        self.machine = (((1,), (0,)), (1,))
        self.mode = "queue"
        self.shown = 0
        self.telling = (0,)
        self.keeper = None
        self.history = []
        self.standing = 0
        self.done = []

    def begin_deed(self, word):
        """Remember how all is ahead of the deed whose request begins with word."""
        held = (self.machine, self.mode, self.shown, self.telling, self.keeper)
        # A history only grows or is put by a new one: so its length tells what it was.
        self.done.append((word, held, self.history, len(self.history), self.standing))

    def take_back(self):
        """Take back the last deed, and return the word with which its request begins."""
        if not self.done:
            raise CanNot()
        word, held, history, many, standing = self.done.pop()
        self.machine, self.mode, self.shown, self.telling, self.keeper = held
        del history[many:]
        self.history = history
        self.standing = standing
        return word

    def put_behind(self, deed, change):
        """Put deed behind the history; change tells how many more stand behind it."""
        self.begin_deed(deed[0])
        self.history.append(deed)
        self.standing += change

    def clear_history(self):
        """Begin a new history."""
        self.history = []
        self.standing = 0

    def held_keeper(self):
        """Return the keeper; CanNot() if there is none."""
        if self.keeper is None:
            raise CanNot()
        return self.keeper


def do_machine(held, text):
    """Do the request machine."""
    machine = machine_read(text)
    held.begin_deed("machine")
    held.machine, held.telling, held.keeper = machine, (0,) * letters_in(machine), None
    held.clear_history()


def do_telling(held, text):
    """Do the request telling."""
    telling = telling_for(held.machine, telling_read(text))
    held.begin_deed("telling")
    held.telling, held.keeper = telling, None


def do_keeper(held, text):
    """Do the request keeper."""
    keeper = keeper_read(text)
    telling_for(held.machine, keeper[2])
    held.begin_deed("keeper")
    held.keeper = keeper
    held.mode, held.shown, held.telling = keeper[:3]


def do_queue(held, shown):
    """Do the request queue."""
    hold_mode(held, "queue", shown)


def do_pile(held, shown):
    """Do the request pile."""
    hold_mode(held, "pile", shown)


def hold_mode(held, mode, shown):
    """Hold this mode and so many letters shown."""
    held.begin_deed(mode)
    held.mode, held.shown, held.keeper = mode, shown, None


def do_in(held, letter):
    """Do the request in."""
    if not 1 <= letter <= letters_in(held.machine):
        raise NoPlace(letter)
    held.put_behind(("in", letter), 1)


def do_make(held):
    """Do the request make."""
    if held.mode == "pile":
        keeper = made_pile(held.machine, held.shown, held.telling)
    elif held.shown > 0:
        keeper = made_shown(held.machine, held.shown)
    else:
        keeper = made(held.machine, held.telling)
    held.begin_deed("make")
    held.keeper, held.telling = keeper, keeper[2]


def do_out(held):
    """Do the request out."""
    if held.standing == 0:
        raise CanNot()
    held.put_behind(("out",), -1)


def do_clear(held):
    """Do the request clear."""
    held.begin_deed("clear")
    held.clear_history()


def tell_undo(held):
    """Answer the request undo."""
    return held.take_back()


def tell_stands(held):
    """Answer the request stands."""
    return numbers_or_none(stands(held.mode, held.history))


def tell_takes(held):
    """Answer the request takes."""
    return yes_or_no(takes(held.machine, stands(held.mode, held.history)))


def tell_room(held):
    """Answer the request room."""
    return str(rooms_along(held.held_keeper(), held.history)[-1])


def tell_answer(held):
    """Answer the request answer."""
    return yes_or_no(answer_behind(held.held_keeper(), held.history))


def tell_kept(held):
    """Answer the request kept."""
    return yes_or_no(is_kept_so(held.machine, held.mode, held.shown, held.telling))


def tell_coarsest(held):
    """Answer the request coarsest."""
    return numbers_or_none(coarsest(held.machine))


def tell_least(held):
    """Answer the request least."""
    number = least_pile(held.machine) if held.mode == "pile" else least_shown(held.machine)
    return numbers_or_none([] if number is None else [number])


def tell_level(held):
    """Answer the request level."""
    return str(level_of(held.machine))


def tell_why(held):
    """Answer the request why."""
    return history_text(refuted(held.held_keeper(), held.machine))


def yes_or_no(truth):
    """Return the reply for True or False."""
    return "yes" if truth else "no"


def numbers_or_none(numbers):
    """Return the reply for numbers, maybe none."""
    return line_of(numbers) if numbers else "-"


TEXT_DEEDS = {"machine": do_machine, "telling": do_telling, "keeper": do_keeper}
NUMBER_DEEDS = {"queue": do_queue, "pile": do_pile, "in": do_in}
DEEDS = {"make": do_make, "out": do_out, "clear": do_clear}
ANSWERS = {"undo": tell_undo, "stands": tell_stands, "takes": tell_takes, "room": tell_room, "answer": tell_answer,
           "kept": tell_kept, "coarsest": tell_coarsest, "least": tell_least, "level": tell_level, "why": tell_why}


def desk(text):
    """Return the replies to the requests in text."""
    requests = requests_in(text)
    for line, head, rows in requests:
        if not is_whole(head, rows):
            raise BadText(line)
    held = Desk()
    return [reply(held, head, rows) for _, head, rows in requests]


def is_request(thing):
    """Tell whether thing is a string that is one request."""
    if not isinstance(thing, str):
        return False
    requests = requests_in(thing)
    return len(requests) == 1 and is_whole(requests[0][1], requests[0][2])


def requests_in(text):
    """Return the triples of the number, from 1, of a line with which a request begins, that line, those of its text.

    A line that begins with a blank and has no request ahead of it stands as one that begins one, too.
    """
    requests = []
    for at, line in enumerate(lines_in(text), start=1):
        if requests and line.startswith(" "):
            requests[-1][2].append(line[1:])
        else:
            requests.append((at, line, []))
    return requests


def is_whole(head, rows):
    """Tell whether this line is that of a request, which has a text of these lines, or none if there are none."""
    if head in TEXT_DEEDS:
        return len(rows) > 0
    if len(rows) > 0:
        return False
    if head in DEEDS or head in ANSWERS:
        return True
    words = head.split(" ")
    return len(words) == 2 and words[0] in NUMBER_DEEDS and number_in(words[1], MOST_FIGURES) is not None


def reply(held, head, rows):
    """Return the reply to a request."""
    try:
        return worked(held, head, rows)
    except NoPlace:
        return "refused NoPlace"
    except BadText:
        return "refused BadText"
    except CanNot:
        return "refused CanNot"
    except TooMuch:
        return "refused TooMuch"
    except Unfit:
        return "refused Unfit"


def worked(held, head, rows):
    """Do or answer a request, and return the reply to it."""
    if head in ANSWERS:
        answer = ANSWERS[head]
        return answer(held)
    if head in DEEDS:
        deed = DEEDS[head]
        deed(held)
    elif head in TEXT_DEEDS:
        text_deed = TEXT_DEEDS[head]
        text_deed(held, "\n".join(rows))
    else:
        word, number = head.split(" ")
        number_deed = NUMBER_DEEDS[word]
        number_deed(held, int(number))
    return "done"
