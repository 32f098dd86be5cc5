"""The interface, errors.py."""

import unittest

from parleyturn.errors import NoEnd, NoMove, NoOffer, NoPart, NoStand, NotYet, TalkError

REFUSALS = (NoPart, NoMove, NoStand, NoOffer, NotYet, NoEnd)


class Errors(unittest.TestCase):
    def test_talk_error_is_a_value_error(self):
        self.assertEqual(TalkError.__bases__, (ValueError,))

    def test_each_refusal_is_a_talk_error(self):
        for refusal in REFUSALS:
            with self.assertRaises(TalkError):
                raise refusal("in its own words")

    def test_no_refusal_is_below_another(self):
        for one in REFUSALS:
            for other in REFUSALS:
                self.assertEqual(issubclass(one, other), one is other, (one, other))

    def test_talk_error_is_none_of_the_refusals(self):
        for refusal in REFUSALS:
            self.assertFalse(issubclass(TalkError, refusal))

    def test_names(self):
        names = [refusal.__name__ for refusal in REFUSALS]
        self.assertEqual(names, ["NoPart", "NoMove", "NoStand", "NoOffer", "NotYet", "NoEnd"])


if __name__ == "__main__":
    unittest.main()
