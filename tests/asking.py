"""What the tests of wrong inputs share."""

from ruleshadows import errors


class Asks:
    """For a TestCase: which error a call must raise."""

    def refuses(self, name, function, *given, **named):
        """The call raises this very error; a pair names the value of its attribute, too."""
        wanted, value = name if isinstance(name, tuple) else (name, None)
        with self.assertRaises(errors.RuleError, msg=(name, function.__name__, given, named)) as caught:
            function(*given, **named)
        self.assertIs(caught.exception.__class__, getattr(errors, wanted), (function.__name__, given, named))
        if isinstance(name, tuple):
            found = [getattr(caught.exception, word) for word in ("part", "most", "at", "name")
                     if hasattr(caught.exception, word)]
            self.assertEqual(found, [value], (function.__name__, given, named))
            self.assertIs(found[0].__class__, value.__class__)


def number(part):
    return ("BadNumber", part)


NO_BOOK = ("BadBook", None)
MANY = ("TooMany", 1000)
NUMBERS_NOT = (True, False, None, "1", 1.0, [1])
