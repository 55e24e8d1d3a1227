"""Texts of machines, tellings, words, histories and keepers, and what they are read as."""

from gonetold.errors import BadText
from gonetold.keepers import is_heard
from gonetold.tellings import is_telling, tokens_in
from gonetold.words import is_mode, is_word, is_word_of

MOST_FIGURES = 12


def line_of(parts):
    """Return the line of these parts, words and numbers."""
    return " ".join([str(part) for part in parts])


def machine_text(machine):
    """Return the text of machine."""
    lines = ["machine"]
    for state, row in enumerate(machine[0]):
        lines.append(line_of(["end" if state in machine[1] else "state"] + list(row)))
    return "\n".join(lines)


def telling_text(telling):
    """Return the text of telling."""
    return line_of(["telling"] + list(telling))


def word_text(word):
    """Return the text of word."""
    return line_of(["word"] + list(word))


def history_text(history):
    """Return the text of history."""
    return line_of(["history"] + [deed[1] if deed[0] == "in" else "-" for deed in history])


def keeper_text(keeper):
    """Return the text of keeper."""
    mode, shown, telling, answers, begin, table = keeper
    lines = [line_of(["keeper", mode, shown, begin]), telling_text(telling)]
    for answer, row in zip(answers, table):
        lines.append("yes" if answer else "no")
        for heard, sight, room in row:
            lines.append(line_of(list(heard) + list(sight) + ["to", room]))
    return "\n".join(lines)


def lines_in(text):
    """Return the lines of text: the empty text has none."""
    return text.split("\n") if text else []


def number_in(part, figures):
    """Return the number that part writes in so many figures at most, or None."""
    if not 1 <= len(part) <= figures or not part.isascii() or not part.isdigit():
        return None
    if part[0] == "0" and len(part) > 1:
        return None
    return int(part)


def numbers_in(parts):
    """Return the tuple of the numbers that parts write, or None if one writes none."""
    numbers = tuple([number_in(part, MOST_FIGURES) for part in parts])
    return None if None in numbers else numbers


def machine_read(text):
    """Return the machine with this text."""
    lines = lines_in(text)
    steps, ends = [], []
    for at, line in enumerate(lines, start=1):
        if at == 1 and line != "machine":
            raise BadText(at)
        if at > 1:
            row = states_in(line)
            if row is None or (steps and len(row) != len(steps[0])):
                raise BadText(at)
            if line.startswith("end"):
                ends.append(len(steps))
            steps.append(row)
    require_told(lines, [state for row in steps for state in row], len(steps))
    return tuple(steps), tuple(ends)


def states_in(line):
    """Return the states, one at least, in the line of a state, or None if it is none."""
    parts = line.split(" ")
    if parts[0] not in ("state", "end") or len(parts) == 1:
        return None
    return numbers_in(parts[1:])


def require_told(lines, places, many):
    """Raise BadText() for the line behind the last one unless there is one of so many, and each place is among them."""
    if many == 0 or max(places) >= many:
        raise BadText(len(lines) + 1)


def telling_read(text):
    """Return the telling with this text."""
    return read_alone(text, telling_in)


def word_read(text):
    """Return the word with this text."""
    return read_alone(text, word_in)


def history_read(text):
    """Return the history with this text."""
    return read_alone(text, history_in)


def read_alone(text, value_in):
    """Return what the one line of text is read as by value_in, which returns None for a line that goes wrong."""
    lines = lines_in(text)
    value = value_in(lines[0]) if lines else None
    if value is None:
        raise BadText(1)
    if len(lines) > 1:
        raise BadText(2)
    return value


def telling_in(line):
    """Return the telling in a line, or None."""
    parts = line.split(" ")
    tokens = numbers_in(parts[1:])
    return tokens if parts[0] == "telling" and is_telling(tokens) else None


def word_in(line):
    """Return the word in a line, or None."""
    parts = line.split(" ")
    letters = numbers_in(parts[1:])
    return letters if parts[0] == "word" and is_word(letters) else None


def history_in(line):
    """Return the history in a line, or None."""
    parts = line.split(" ")
    letters = numbers_in([part for part in parts[1:] if part != "-"])
    if parts[0] != "history" or not is_word(letters):
        return None
    return tuple([("out",) if part == "-" else ("in", int(part)) for part in parts[1:]])


def keeper_read(text):
    """Return the keeper with this text."""
    lines = lines_in(text)
    head = head_in(lines[0]) if lines else None
    if head is None:
        raise BadText(1)
    telling = telling_in(lines[1]) if len(lines) > 1 else None
    if telling is None:
        raise BadText(2)
    mode, shown, begin = head
    answers, table = [], []
    for at, line in enumerate(lines[2:], start=3):
        if line in ("yes", "no"):
            answers.append(line == "yes")
            table.append([])
        else:
            triple = triple_in(line, shown, telling)
            if triple is None or not table or not goes_behind(triple, table[-1]):
                raise BadText(at)
            table[-1].append(triple)
    require_told(lines, [begin] + [triple[2] for row in table for triple in row], len(table))
    return mode, shown, telling, tuple(answers), begin, tuple([tuple(row) for row in table])


def head_in(line):
    """Return the triple (mode, shown, begin) in the first line of a keeper, or None."""
    parts = line.split(" ")
    if len(parts) != 4 or parts[0] != "keeper" or not is_mode(parts[1]):
        return None
    numbers = numbers_in(parts[2:])
    return None if numbers is None else (parts[1],) + numbers


def triple_in(line, shown, telling):
    """Return the triple (heard, seen, room) in a line, or None."""
    parts = line.split(" ")
    if len(parts) < 4 or parts[-2] != "to":
        return None
    numbers = numbers_in(parts[1:-2] + parts[-1:])
    if numbers is None:
        return None
    heard, sight, room = (parts[0], numbers[0]), numbers[1:-1], numbers[-1]
    if not is_heard(heard, len(telling), tokens_in(telling)) or not is_word_of(sight, len(telling)):
        return None
    return (heard, sight, room) if len(sight) <= shown else None


def goes_behind(triple, row):
    """Tell whether triple may stand behind the triples in row."""
    return not row or row[-1][:2] < triple[:2]
