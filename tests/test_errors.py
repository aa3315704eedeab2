import unittest

from unlikeplace import errors

PLAIN_ONES = ("NoCase", "NoSaying", "NoTalk", "NoRise", "TooMany", "NoRow", "NoWord")


class Errors(unittest.TestCase):
    def test_each_stands_right_under_talk_error(self):
        self.assertEqual(errors.TalkError.__bases__, (ValueError,))
        for name in PLAIN_ONES + ("NoText",):
            self.assertEqual(getattr(errors, name).__bases__, (errors.TalkError,), name)

    def test_none_stands_under_another_one(self):
        kinds = [getattr(errors, name) for name in PLAIN_ONES + ("NoText",)]
        for one in kinds:
            for other in kinds:
                self.assertEqual(issubclass(one, other), one is other)

    def test_they_are_raised_and_caught(self):
        for name in PLAIN_ONES:
            kind = getattr(errors, name)
            with self.assertRaises(errors.TalkError) as caught:
                raise kind("why")
            self.assertIs(type(caught.exception), kind)
            self.assertEqual(str(caught.exception), "why")

    def test_no_text_has_its_at(self):
        for at in (0, 1, 3000):
            self.assertEqual(errors.NoText(at).at, at)
            with self.assertRaises(ValueError) as caught:
                raise errors.NoText(at)
            self.assertEqual(caught.exception.at, at)
        one, other = errors.NoText(1), errors.NoText(2)
        self.assertEqual((one.at, other.at), (1, 2))


if __name__ == "__main__":
    unittest.main()
