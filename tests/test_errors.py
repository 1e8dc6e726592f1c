"""Tests of ordermerge.errors: the classes of the interface, their base classes and attributes."""

import unittest

from ordermerge import errors

FORM_ERRORS = {
    "InvalidBase": ["problem", "position"],
    "InvalidOrder": ["position"],
    "InvalidIndex": ["value"],
    "InvalidReason": ["value"],
    "InvalidPosition": ["value"],
    "InvalidCount": ["value"],
    "InvalidPairs": ["position"],
    "InvalidEntries": ["position"],
    "InvalidOrders": ["position"],
    "InvalidArcs": ["position"],
    "InvalidWord": ["position"],
    "InvalidMove": ["value"],
    "InvalidUsers": ["problem", "position"],
    "InvalidMessage": ["position"],
    "InvalidText": ["line"],
    "SameItem": ["value"],
    "InvalidOperation": [],
    "InvalidCommand": [],
}
LOOKUP_ERRORS = {
    "UnknownItem": ["value"],
    "UnknownUser": ["value"],
    "UnknownReplica": ["value"],
    "UnknownMessage": ["value"],
}
STATE_ERRORS = {
    "NotLocal": ["user"],
    "Forked": ["user"],
    "NothingToUndo": ["user"],
    "NotSettled": ["replica"],
    "LastItem": ["value"],
}
RESULT_ERRORS = {
    "Obstructed": ["obstruction"],
    "BrokenHistory": ["count"],
    "TooManyItems": ["limit"],
    "DifferentOrders": [],
}
ATTRIBUTES = {"OrderError": [], **FORM_ERRORS, **LOOKUP_ERRORS, **STATE_ERRORS, **RESULT_ERRORS}


def class_called(name):
    return getattr(errors, name)


def expected_bases():
    """Return a dict from the name of each class to its only direct base class."""
    bases = {"OrderError": ValueError}
    bases.update({name: errors.OrderError for name in FORM_ERRORS})
    bases.update({name: LookupError for name in LOOKUP_ERRORS})
    bases.update({name: RuntimeError for name in STATE_ERRORS})
    bases.update({name: ArithmeticError for name in RESULT_ERRORS})
    return bases


def sample_values(names):
    """Return a dict from the names of attributes to values that are all different, and of any kind."""
    samples = [["some", {"value": 1}], ("another", None)]
    return dict(zip(names, samples))


class ErrorClassesTest(unittest.TestCase):
    def test_the_classes_of_the_interface_and_no_others(self):
        defined = [name for name, value in vars(errors).items() if isinstance(value, type)]
        self.assertEqual(sorted(defined), sorted(ATTRIBUTES))

    def test_the_direct_base_class(self):
        for name, base in expected_bases().items():
            with self.subTest(name=name):
                self.assertEqual(class_called(name).__bases__, (base,))

    def test_no_other_subclass_relations(self):
        for name in ATTRIBUTES:
            for other in ATTRIBUTES:
                related = name == other or (other == "OrderError" and name in FORM_ERRORS)
                with self.subTest(name=name, other=other):
                    self.assertEqual(issubclass(class_called(name), class_called(other)), related)

    def test_each_can_be_raised_and_caught_by_its_base(self):
        for name, base in expected_bases().items():
            with self.subTest(name=name):
                with self.assertRaises(base):
                    raise class_called(name)(*(ATTRIBUTES[name] or ["a message"]))


class ErrorAttributesTest(unittest.TestCase):
    def check_attributes(self, error, values):
        self.assertEqual(vars(error), values)
        for name, value in values.items():
            self.assertIs(getattr(error, name), value)

    def test_created_by_position(self):
        for name, names in ATTRIBUTES.items():
            values = sample_values(names)
            if names:
                with self.subTest(name=name):
                    self.check_attributes(class_called(name)(*values.values()), values)

    def test_created_by_names(self):
        for name, names in ATTRIBUTES.items():
            values = sample_values(names)
            if names:
                with self.subTest(name=name):
                    self.check_attributes(class_called(name)(**values), values)

    def test_created_by_names_in_another_sequence(self):
        for name, names in ATTRIBUTES.items():
            values = sample_values(names)
            turned = {key: values[key] for key in reversed(names)}
            if names:
                with self.subTest(name=name):
                    self.check_attributes(class_called(name)(**turned), values)

    def test_all_arguments_are_required_and_no_others(self):
        for name, names in ATTRIBUTES.items():
            if names:
                with self.subTest(name=name):
                    with self.assertRaises(TypeError):
                        class_called(name)(*names[1:])
                    with self.assertRaises(TypeError):
                        class_called(name)(*names, "more")

    def test_without_attributes_created_with_a_message(self):
        for name, names in ATTRIBUTES.items():
            if not names:
                with self.subTest(name=name):
                    error = class_called(name)("what is wrong")
                    self.assertEqual(str(error), "what is wrong")
                    self.assertEqual(vars(error), {})


if __name__ == "__main__":
    unittest.main()
