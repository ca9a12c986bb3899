"""What the tests of several files check alike."""

import unittest

from letterhalls.errors import BadHouse


class HouseCase(unittest.TestCase):
    def check_bad_house(self, called, at, part):
        """Check that a call raises BadHouse with this word."""
        with self.subTest(at=at, part=part):
            with self.assertRaises(BadHouse) as caught:
                called()
            self.assertEqual(caught.exception.part, part)
