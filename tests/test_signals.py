"""The nine signals."""

import unittest

from kinsignals.signals import SIGNALS, SURE


class Signals(unittest.TestCase):
    def test_the_nine_in_their_order(self):
        self.assertIs(SIGNALS.__class__, tuple)
        self.assertEqual(SIGNALS, ("kill", "halt", "on", "hang", "quit", "call", "kin", "rest", "reads"))

    def test_kill_and_halt_are_sure(self):
        self.assertEqual(SURE, ("kill", "halt"))


if __name__ == "__main__":
    unittest.main()
