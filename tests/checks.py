"""What several files of tests use."""

import unittest


class Checks(unittest.TestCase):
    """A test case that also looks at the fields of errors."""

    def assert_error(self, error_class, fields, function, *args, **named):
        """The call raises an error of just this class, whose attributes are just these fields."""
        with self.assertRaises(error_class) as caught:
            function(*args, **named)
        error = caught.exception
        self.assertIs(type(error), error_class)
        self.assertEqual(sorted(vars(error)), sorted(fields))
        for name, value in fields.items():
            kept = getattr(error, name)
            # 1 == True, but a field keeps what it was given.
            self.assertIs(type(kept), type(value))
            self.assertEqual(kept, value)


def value_of(row, n):
    """The value of a row of integers at n, by the words of the document."""
    return sum(number * n ** k for k, number in enumerate(row))


def sign(number):
    return (number > 0) - (number < 0)


# Values that are no integers, for arguments that must be integers.
NO_INTEGERS = (True, False, None, "1", 1.0, (1,), [], object)
