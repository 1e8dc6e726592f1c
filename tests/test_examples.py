"""Runs the examples of the document's interface, which stand in the folder examples as they stand there."""

import unittest
from pathlib import Path

from ordermerge import errors

FOLDER = Path(__file__).resolve().parent / "examples"
PROMPT = ">>> "
RAISES = "raises "


def examples_of(path):
    """Return the lines with which each example of a file begins, and the list of its examples, lists of lines."""
    first, *others = [part.splitlines() for part in path.read_text().strip().split("\n\n")]
    return first, others


def statements_of(lines):
    return [line[len(PROMPT):] for line in lines if line.startswith(PROMPT)]


def expected_of(lines):
    return "\n".join([line for line in lines if not line.startswith(PROMPT)])


def shown_error(error):
    """Return an error in the way in which the examples show it."""
    attributes = ", ".join([f"{name}={value!r}" for name, value in vars(error).items()])
    shown = type(error).__name__ + (f"({attributes})" if attributes else "")
    # An error of Python itself that happens to have the same name would not do.
    return shown if getattr(errors, type(error).__name__, None) is type(error) else repr(error)


def result_of(statements):
    """Run statements, of which the last one is an expression or raises an error, and return what is shown."""
    names = {}
    for statement in statements[:-1]:
        exec(statement, names)
    try:
        return repr(eval(statements[-1], names))
    except Exception as error:
        return RAISES + shown_error(error)


class ExamplesTest(unittest.TestCase):
    def test_examples(self):
        for path in sorted(FOLDER.glob("*.txt")):
            start, examples = examples_of(path)
            self.assertTrue(examples)
            for lines in examples:
                with self.subTest(path=path.name, lines=lines):
                    self.assertNotEqual(expected_of(lines), "")
                    self.assertEqual(result_of(statements_of(start + lines)), expected_of(lines))

    def test_the_examples_are_there(self):
        counts = {path.stem: len(examples_of(path)[1]) for path in FOLDER.glob("*.txt")}
        self.assertEqual(counts, {
            "stage2": 16, "stage3": 18, "stage4": 7, "stage5": 8, "stage6": 13, "stage7": 12, "stage8": 13, "stage9": 8,
        })


if __name__ == "__main__":
    unittest.main()
