"""The refusals: one class above, three below it, none of these under another one."""

import unittest

from loopwords import errors
from loopwords.errors import BadFilling, BadProgram, LoopError, NoLoop

REFUSALS = (BadProgram, BadFilling, NoLoop)


class TestErrors(unittest.TestCase):
    def test_every_refusal_is_a_loop_error_and_a_value_error(self):
        self.assertTrue(issubclass(LoopError, ValueError))
        for refusal in REFUSALS:
            self.assertTrue(issubclass(refusal, LoopError))

    def test_none_is_under_another_one(self):
        for one in REFUSALS:
            for other in REFUSALS:
                self.assertEqual(issubclass(one, other), one is other)

    def test_loop_error_is_under_none_of_them(self):
        for refusal in REFUSALS:
            self.assertFalse(issubclass(LoopError, refusal))

    def test_they_are_defined_in_this_file(self):
        for refusal in (LoopError,) + REFUSALS:
            self.assertEqual(refusal.__module__, errors.__name__)

    def test_they_can_be_raised_with_words_and_caught_as_the_one_above(self):
        for refusal in REFUSALS:
            with self.assertRaises(LoopError) as caught:
                raise refusal("why")
            self.assertEqual(str(caught.exception), "why")


if __name__ == "__main__":
    unittest.main()
