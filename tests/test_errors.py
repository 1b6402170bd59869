"""[2] and the interface: the fourteen error classes."""

import inspect
import unittest

from stayswap import errors

BASES = (LookupError, ValueError, RuntimeError, OverflowError)

TABLE = [
    (errors.NoGuest, LookupError, ["guest"]),
    (errors.NoNumber, LookupError, ["number"]),
    (errors.NoDeed, LookupError, ["many"]),
    (errors.OtherGuests, ValueError, ["many"]),
    (errors.Obstacle, ValueError, ["day"]),
    (errors.Early, ValueError, ["arrival"]),
    (errors.Taken, ValueError, ["day"]),
    (errors.BadDeed, ValueError, ["at"]),
    (errors.BadText, ValueError, ["text"]),
    (errors.BadLine, ValueError, ["at"]),
    (errors.Apart, RuntimeError, ["one", "other"]),
    (errors.Barred, RuntimeError, ["reason"]),
    (errors.TooMany, OverflowError, ["many"]),
    (errors.Full, OverflowError, ["many"]),
]

# Python refuses to write out a number of more than 4300 digits.
VALUES = [0, -1, 12, 10 ** 5000, "days", "", None, (1, 2)]


class ErrorsTest(unittest.TestCase):

    def test_these_fourteen_and_no_others(self):
        found = {c for _, c in inspect.getmembers(errors, inspect.isclass)}
        self.assertEqual(found, {error for error, _, _ in TABLE})
        self.assertEqual(len(found), 14)
        for error in found:
            self.assertEqual(error.__module__, "stayswap.errors")

    def test_direct_base_class(self):
        for error, base, _ in TABLE:
            with self.subTest(error=error.__name__):
                self.assertEqual(error.__bases__, (base,))

    def test_no_subclass_of_another(self):
        for error, base, _ in TABLE:
            others = [e for e, _, _ in TABLE if e is not error]
            for other in others + [b for b in BASES if b is not base]:
                with self.subTest(error=error.__name__, other=other.__name__):
                    self.assertFalse(issubclass(error, other))

    def test_by_position(self):
        for error, _, names in TABLE:
            for value in VALUES:
                with self.subTest(error=error.__name__):
                    values = [value, "second"][:len(names)]
                    made = error(*values)
                    self.assertEqual([getattr(made, name) for name in names], values)

    def test_by_name(self):
        for error, _, names in TABLE:
            for value in VALUES:
                with self.subTest(error=error.__name__):
                    values = dict(zip(names, [value, "second"]))
                    made = error(**values)
                    self.assertEqual({name: getattr(made, name) for name in names}, values)

    def test_names_in_the_order_of_the_brackets(self):
        for error, _, names in TABLE:
            with self.subTest(error=error.__name__):
                self.assertEqual(list(inspect.signature(error).parameters), names)

    def test_every_value_is_needed_and_no_more(self):
        for error, _, names in TABLE:
            with self.subTest(error=error.__name__):
                with self.assertRaises(TypeError):
                    error(*range(len(names) - 1))
                with self.assertRaises(TypeError):
                    error(*range(len(names) + 1))

    def test_raised_and_caught(self):
        for error, base, names in TABLE:
            with self.subTest(error=error.__name__):
                with self.assertRaises(base) as caught:
                    raise error(*range(len(names)))
                self.assertIs(caught.exception.__class__, error)


if __name__ == "__main__":
    unittest.main()
