"""[2] and the opening of the interface: the error classes, their fields and their bases."""

import copy
import unittest

from seatedtwice import errors

FIELDS = {
    "BadScene": ("line", 3),
    "BadWorld": ("line", 1),
    "BadScript": ("line", 61),
    "BadSaying": ("index", 0),
    "BadWalk": ("index", 300),
    "NoThing": ("name", "p"),
    "NoRow": ("name", ""),
    "NoMark": ("name", "no mark\nat all"),
    "NoLots": None,
    "BadInputs": ("index", 2),
    "OtherScene": None,
    "Unlike": None,
    "NotBare": ("index", 1),
    "BadName": ("name", "row"),
    "NoButton": ("name", "tick"),
    "Taken": ("name", "any"),
    "NoGuard": ("name", "{}"),
    "Barred": ("names", ["any", "most"]),
    "NothingToUndo": None,
}


def made(name):
    """An error of the class of this name, made from its field."""
    field = FIELDS[name]
    kind = getattr(errors, name)
    return kind() if field is None else kind(field[1])


class ErrorClasses(unittest.TestCase):

    def test_there_are_nineteen_and_their_base(self):
        classes = {name for name, value in vars(errors).items() if isinstance(value, type)}
        self.assertEqual(classes, set(FIELDS) | {"SeatError"})
        self.assertEqual(len(FIELDS), 19)

    def test_bases(self):
        self.assertEqual(errors.SeatError.__bases__, (ValueError,))
        for name in FIELDS:
            with self.subTest(name):
                self.assertEqual(getattr(errors, name).__bases__, (errors.SeatError,))

    def test_defined_in_errors(self):
        for name in [*FIELDS, "SeatError"]:
            self.assertEqual(getattr(errors, name).__module__, "seatedtwice.errors")

    def test_fields_are_attributes(self):
        for name, field in FIELDS.items():
            with self.subTest(name):
                error = made(name)
                self.assertEqual(vars(error), {} if field is None else {field[0]: field[1]})

    def test_fields_by_name(self):
        for name, field in FIELDS.items():
            if field is not None:
                with self.subTest(name):
                    error = getattr(errors, name)(**{field[0]: field[1]})
                    self.assertEqual(getattr(error, field[0]), field[1])

    def test_none_is_another_one(self):
        for name in FIELDS:
            with self.subTest(name):
                error = made(name)
                is_one = [other for other in FIELDS if isinstance(error, getattr(errors, other))]
                self.assertEqual(is_one, [name])
                self.assertIsInstance(error, errors.SeatError)
                self.assertIsInstance(error, ValueError)

    def test_any_integers_and_texts(self):
        for name, field in FIELDS.items():
            if field is None or field[0] == "names":
                continue
            values = ["", " ", "\n", "{0}", "{name}", "'\"\\"] if field[0] == "name" else [-1, 0, 10 ** 30]
            for value in values:
                with self.subTest(name, value=value):
                    self.assertEqual(getattr(getattr(errors, name)(value), field[0]), value)

    def test_fields_must_be_given(self):
        for name, field in FIELDS.items():
            with self.subTest(name):
                if field is not None:
                    self.assertRaises(TypeError, getattr(errors, name))

    def test_each_has_a_text(self):
        for name in FIELDS:
            with self.subTest(name):
                self.assertIsInstance(str(made(name)), str)
                self.assertIsInstance(repr(made(name)), str)

    def test_copies_keep_the_fields(self):
        for name in FIELDS:
            with self.subTest(name):
                error = copy.copy(made(name))
                self.assertEqual(vars(error), vars(made(name)))

    def test_raised_and_caught(self):
        for name in FIELDS:
            with self.subTest(name):
                with self.assertRaises(getattr(errors, name)) as caught:
                    raise made(name)
                self.assertEqual(vars(caught.exception), vars(made(name)))

    def test_barred_copies_its_list(self):
        names = ["any", "most"]
        error = errors.Barred(names)
        names.append("none")
        self.assertEqual(error.names, ["any", "most"])
        self.assertEqual(errors.Barred([]).names, [])

    def test_barred_takes_a_tuple(self):
        self.assertEqual(errors.Barred(("any",)).names, ["any"])

    def test_seat_error_catches_all(self):
        for name in FIELDS:
            with self.assertRaises(errors.SeatError):
                raise made(name)


if __name__ == "__main__":
    unittest.main()
