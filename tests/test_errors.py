"""The interface of besidewords/errors.py."""

import unittest

from besidewords import errors
from besidewords.errors import BesideError, NoDeed, NoQuestion, NoText, NoWay, Twice

UNDER = (NoQuestion, NoWay, Twice, NoText, NoDeed)


class Errors(unittest.TestCase):
    def test_each_stands_straight_under_the_one_refusal(self):
        self.assertEqual(BesideError.__bases__, (ValueError,))
        for refusal in UNDER:
            self.assertEqual(refusal.__bases__, (BesideError,))

    def test_there_are_no_others(self):
        names = {name for name in dir(errors) if not name.startswith("__")}
        self.assertEqual(names, {"BesideError", "NoQuestion", "NoWay", "Twice", "NoText", "NoDeed"})

    def test_no_question_tells_where(self):
        for at in (0, 7, 300):
            self.assertEqual(NoQuestion(at).at, at)
            with self.assertRaises(BesideError) as caught:
                raise NoQuestion(at)
            self.assertEqual(caught.exception.at, at)

    def test_the_field_is_each_objects_own(self):
        one, other = NoQuestion(1), NoQuestion(2)
        self.assertEqual((one.at, other.at), (1, 2))

    def test_no_question_wants_its_number(self):
        with self.assertRaises(TypeError):
            NoQuestion()

    def test_the_others_are_raised_with_and_without_words(self):
        for refusal in (BesideError, NoWay, Twice, NoText, NoDeed):
            for made in (refusal(), refusal("why")):
                with self.assertRaises(refusal):
                    raise made


if __name__ == "__main__":
    unittest.main()
