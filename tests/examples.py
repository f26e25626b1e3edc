"""Run the examples of the document as they are written there."""

import ast

ERRORS = "from twiceslope.errors import *"


def steps(text):
    """The pairs (code, lines told) of a text of examples."""
    found = []
    for line in text.strip("\n").split("\n"):
        if line.startswith(">>> "):
            found.append((line[4:], []))
        else:
            found[-1][1].append(line)
    return found


def run_text(case, text, kept_names=None):
    """Run each step of the text and compare what it returns or raises."""
    names = {} if kept_names is None else kept_names
    for code, told in steps(text):
        if not told:
            exec(code, names)
        elif told[0].startswith("raises "):
            expected = expected_error(told[0][len("raises "):])
            with case.assertRaises(type(expected)) as caught:
                eval(code, names)
            case.assertIs(type(caught.exception), type(expected))
            case.assertSame(caught.exception.thing, expected.thing)
        else:
            case.assertEqual(len(told), 1)
            case.assertSame(eval(code, names), ast.literal_eval(told[0]))


def expected_error(words):
    names = {}
    exec(ERRORS, names)
    return eval(words, names)
