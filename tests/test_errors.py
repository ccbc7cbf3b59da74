"""The errors of the interface: what they are, and what they hold."""

import unittest

from tribunal.errors import (
    BadArchive, BadCommand, BadJournal, BadLine, BadPaper, BadScript, BadWeights, Forged, Refused, TribunalError,
)

WITH_PLACE = (BadWeights, BadLine, BadJournal, BadArchive, BadScript)
PLAIN = (BadCommand, BadPaper, Forged)
ALL = WITH_PLACE + PLAIN + (Refused,)
VOTE = ("prevote", 3, 1, "abc", None)


def every_error():
    made = [kind(5) for kind in WITH_PLACE] + [kind("why") for kind in PLAIN]
    return made + [Refused(VOTE)]


class Errors(unittest.TestCase):
    def test_nine_errors_stand_under_the_base_class(self):
        self.assertEqual(len(set(ALL)), 9)
        for kind in ALL:
            self.assertEqual(kind.__bases__, (TribunalError,), kind)
        self.assertEqual(TribunalError.__bases__, (ValueError,))

    def test_each_one_is_a_tribunal_error_and_a_value_error(self):
        for error in every_error():
            self.assertIsInstance(error, TribunalError)
            self.assertIsInstance(error, ValueError)

    def test_none_is_one_of_the_other_eight(self):
        for error in every_error():
            found = [kind for kind in ALL if isinstance(error, kind)]
            self.assertEqual(found, [error.__class__])

    def test_at_is_set_when_the_error_is_created(self):
        for kind in WITH_PLACE:
            for at in (0, 1, 16, 10 ** 30):
                self.assertEqual(vars(kind(at)), {"at": at})

    def test_vote_is_set_when_the_error_is_created(self):
        self.assertEqual(vars(Refused(VOTE)), {"vote": VOTE})

    def test_the_other_errors_have_no_attributes(self):
        for kind in PLAIN:
            self.assertEqual(vars(kind()), {})
            self.assertEqual(str(kind("why")), "why")

    def test_each_one_can_be_raised_caught_and_shown(self):
        for error in every_error():
            with self.assertRaises(TribunalError) as caught:
                raise error
            self.assertIs(caught.exception, error)
            self.assertNotEqual(str(error), "")

    def test_the_base_class_can_be_raised_itself(self):
        error = TribunalError("why")
        self.assertIsInstance(error, ValueError)
        for kind in ALL:
            self.assertNotIsInstance(error, kind)


if __name__ == "__main__":
    unittest.main()
