"""Runs the examples of the document, which the tests hold word for word."""

import ast


def steps_of(text):
    """Return the pairs (source, expected line or None) of a text of examples."""
    steps = []
    for line in text.strip("\n").split("\n"):
        line = line.strip()
        if line.startswith(">>> "):
            steps.append([line[4:], None])
        elif line:
            assert steps[-1][1] is None, line
            steps[-1][1] = line
    return [tuple(step) for step in steps]


def raised(source, names):
    """Return the error that source raises, or None."""
    try:
        eval(source, names)
    except (LookupError, ValueError) as error:
        return error
    return None


def check_error(case, source, expected, names):
    """Check that source raises just the error that expected tells, with what it keeps."""
    told = ast.parse(expected[len("raises "):], mode="eval").body
    error = raised(source, names)
    case.assertIsNotNone(error, source)
    case.assertEqual(type(error).__name__, told.func.id, source)
    kept = [ast.literal_eval(own) for own in told.args]
    kept += [ast.literal_eval(own.value) for own in told.keywords]
    case.assertEqual(list(vars(error).values()), kept, source)
    for own in told.keywords:
        case.assertEqual(getattr(error, own.arg), ast.literal_eval(own.value), source)


def run_examples(case, text, names):
    """Check each example of text; what it sets is put into names."""
    for source, expected in steps_of(text):
        with case.subTest(source=source):
            if expected is None:
                exec(source, names)
            elif expected.startswith("raises "):
                check_error(case, source, expected, names)
            else:
                # By repr, so that True is not taken for 1, nor a list for a tuple.
                case.assertEqual(repr(eval(source, names)), repr(eval(expected, {})), source)
