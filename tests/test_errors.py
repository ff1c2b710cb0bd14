import unittest

from ruleshadows import errors
from ruleshadows.errors import RuleError

PLAIN = ("BadCells", "BadDeed", "BadLive", "BadLower", "BadMap", "BadName", "BadOrder", "BadPrime", "BadRow",
         "BadStart", "BadTable", "BadWeb", "BadWord", "NotAlike", "NotFull", "NotTidy", "NothingLeft")
TELLING = (("BadBook", "part"), ("BadNumber", "part"), ("BadText", "at"), ("NoMark", "name"), ("NoWatch", "name"),
           ("TooMany", "most"))


class Errors(unittest.TestCase):
    def test_23_errors_directly_below_rule_error(self):
        self.assertEqual(RuleError.__bases__, (ValueError,))
        self.assertEqual(len(PLAIN) + len(TELLING), 23)
        for name in list(PLAIN) + [name for name, _ in TELLING]:
            self.assertEqual(getattr(errors, name).__bases__, (RuleError,), name)
            self.assertEqual(getattr(errors, name).__module__, "ruleshadows.errors")

    def test_those_without_attribute_are_made_of_a_message(self):
        for name in PLAIN:
            with self.assertRaises(ValueError) as caught:
                raise getattr(errors, name)("what is wrong")
            self.assertEqual(str(caught.exception), "what is wrong", name)

    def test_the_others_are_made_of_any_value(self):
        for name, attribute in TELLING:
            for value in (None, "length", 1000, True, (1, [2]), [], {"a": 1}, 2.5, b"x"):
                made = getattr(errors, name)(value)
                self.assertIs(getattr(made, attribute), value, name)
                self.assertIsInstance(made, RuleError)
                self.assertIsInstance(str(made), str)
                self.assertIs(getattr(getattr(errors, name)(**{attribute: value}), attribute), value)


if __name__ == "__main__":
    unittest.main()
