"""Words, deeds, histories, and what stands behind them in a queue or a pile."""

from gonetold.checks import is_letter, require_letters
from gonetold.errors import Unfit


class Row:
    """What stands in one mode while letters come in and go out."""

    def __init__(self, mode):
        self.mode = mode
        self.letters = []
        # A queue keeps the letters that went at the head of its list and counts them:
        # to take them off the list would make each out cost as much as the row is long.
        self.gone = 0

    def put(self, letter):
        """Let letter come in."""
        self.letters.append(letter)

    def take(self):
        """Let the letter at the open end go, and return it."""
        if self.mode == "pile":
            return self.letters.pop()
        self.gone += 1
        return self.letters[self.gone - 1]

    def word(self):
        """Return the word that stands."""
        return tuple(self.letters[self.gone:])

    def open_end(self, shown):
        """Return what is seen of the word that stands, as the function seen tells."""
        if self.mode == "pile":
            return seen("pile", self.letters, shown)
        return tuple(self.letters[self.gone:self.gone + shown])


def is_word(thing):
    """Tell whether thing is a word."""
    return isinstance(thing, tuple) and all([is_letter(letter) for letter in thing])


def is_row_of_words(thing, many, letters):
    """Tell whether thing is a tuple of just so many words of so many letters."""
    if not isinstance(thing, tuple) or len(thing) != many:
        return False
    return all([is_word_of(word, letters) for word in thing])


def is_word_of(thing, letters):
    """Tell whether thing is a word of so many letters."""
    return is_word(thing) and all([letter <= letters for letter in thing])


def is_deed(thing):
    """Tell whether thing is a deed."""
    if not isinstance(thing, tuple):
        return False
    if len(thing) == 1:
        return thing[0] == "out"
    return len(thing) == 2 and thing[0] == "in" and is_letter(thing[1])


def is_history(thing):
    """Tell whether thing is a history, sound or not."""
    return isinstance(thing, tuple) and all([is_deed(deed) for deed in thing])


def is_history_of(thing, letters):
    """Tell whether thing is a history, sound or not, of so many letters."""
    return is_history(thing) and all([not comes_in(deed) or deed[1] <= letters for deed in thing])


def is_mode(thing):
    """Tell whether thing is a mode."""
    return thing in ("queue", "pile")


def is_sound(history):
    """Tell whether at each out more letters came in than went out ahead of it."""
    standing = 0
    for deed in history:
        standing += 1 if comes_in(deed) else -1
        if standing < 0:
            return False
    return True


def puts(word):
    """Return the history in which the letters of word come in, in order."""
    return tuple([("in", letter) for letter in word])


def outs(many):
    """Return the history of so many outs."""
    return (("out",),) * many


def stands(mode, history):
    """Return the word that stands behind history."""
    require_sound(history)
    row = Row(mode)
    for deed in history:
        do_deed(row, deed)
    return row.word()


def standings(mode, history):
    """Return the words that stand behind each beginning of history, the shortest first."""
    require_sound(history)
    row = Row(mode)
    words = [row.word()]
    for deed in history:
        do_deed(row, deed)
        words.append(row.word())
    return words


def letters_out(mode, history):
    """Return the word of the letters that went out, in the order in which they did."""
    require_sound(history)
    row = Row(mode)
    went = []
    for deed in history:
        letter = do_deed(row, deed)
        if not comes_in(deed):
            went.append(letter)
    return tuple(went)


def seen(mode, word, shown):
    """Return the letters at the open end of word, as many as are shown."""
    if mode == "queue":
        return tuple(word[:shown])
    return tuple(word[max(0, len(word) - shown):])


def heard_along(mode, shown, telling, history):
    """Return the pairs (heard, seen) of each deed of history."""
    require_sound(history)
    require_letters([deed[1] for deed in history if comes_in(deed)], len(telling))
    row = Row(mode)
    pairs = []
    for deed in history:
        letter = do_deed(row, deed)
        heard = ("in", letter) if comes_in(deed) else ("out", telling[letter - 1])
        pairs.append((heard, row.open_end(shown)))
    return pairs


def histories_of(letters, many):
    """Return, ascending, all sound histories of just many deeds with letters up to letters."""
    # Each longer history goes behind its beginning, and "in" is less than "out":
    # so all of one length ascend if those that are one shorter do.
    found = [((), 0)]
    for _ in range(many):
        found = [longer for history, standing in found for longer in one_deed_more(letters, history, standing)]
    return [history for history, standing in found]


def one_deed_more(letters, history, standing):
    """Return, ascending, the pairs of each sound history one deed longer and how many stand behind it."""
    longer = [(history + (("in", letter),), standing + 1) for letter in range(1, letters + 1)]
    if standing > 0:
        longer.append((history + (("out",),), standing - 1))
    return longer


def comes_in(deed):
    """Tell whether a letter comes in by deed."""
    return deed[0] == "in"


def do_deed(row, deed):
    """Do deed in row, and return the letter that came in or went out."""
    if comes_in(deed):
        row.put(deed[1])
        return deed[1]
    return row.take()


def require_sound(history):
    """Raise Unfit() unless history is sound."""
    if not is_sound(history):
        raise Unfit()
