"""What the tests of several files check alike."""

import unittest
from itertools import product

from letterhalls.errors import BadHouse


class HouseCase(unittest.TestCase):
    def check_bad_house(self, called, at, part):
        """Check that a call raises BadHouse with this word."""
        self.check_error(called, at, BadHouse, part=part)

    def check_error(self, called, at, error, **fields):
        """Check that a call raises just this error with just these fields."""
        with self.subTest(at=at, error=error.__name__, **fields):
            with self.assertRaises(error) as caught:
                called()
            self.assertIs(type(caught.exception), error)
            self.assertEqual(vars(caught.exception), fields)

    def check_order(self, function, good, wrongs):
        """Check that the error of the leftmost wrong argument is raised.

        `good` are arguments that may stand; `wrongs` has for each argument triples (value, error, fields).
        """
        choices = [[(value, None, {})] + wrong for value, wrong in zip(good, wrongs)]
        for at, chosen in enumerate(product(*choices)):
            errors = [(error, fields) for _, error, fields in chosen if error is not None]
            if errors:
                error, fields = errors[0]
                values = [value for value, _, _ in chosen]
                self.check_error(lambda: function(*values), (function.__name__, at), error, **fields)
