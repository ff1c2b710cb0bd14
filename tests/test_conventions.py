"""What the document says of all functions, function by function."""

import copy
import inspect
import os
import re
import unittest

import calls
from ruleshadows import errors
from ruleshadows.books import Rules
from ruleshadows.desk import Desk
from ruleshadows.live import LiveBook
from ruleshadows.lowered import Lowered
from ruleshadows.texts import book_text


def shape(value):
    """A value with its kinds, so that a list is no tuple and True no number; the package's objects by all they hold."""
    if isinstance(value, (Rules, Lowered, LiveBook, Desk)):
        return (value.__class__.__name__, [(name, shape(kept)) for name, kept in sorted(vars(value).items())])
    if isinstance(value, (list, tuple)):
        return (value.__class__.__name__, [shape(part) for part in value])
    if isinstance(value, dict):
        return ("dict", [(shape(key), shape(kept)) for key, kept in value.items()])
    return (value.__class__.__name__, value)


def turned(value, kind):
    """All lists and tuples in a value as lists, or as tuples."""
    if isinstance(value, (list, tuple)):
        return kind([turned(part, kind) for part in value])
    return value


def spoil(value):
    """Changes all lists and dicts in a value."""
    if isinstance(value, (list, tuple)):
        for part in value:
            spoil(part)
    if isinstance(value, list):
        value.append("spoiled")
    if isinstance(value, dict):
        value.clear()


def with_true(value):
    """All ways to put True in the place of one number in a list."""
    for at, part in enumerate(value):
        ways = with_true(part) if isinstance(part, (list, tuple)) else [True]
        for way in ways:
            changed = list(value)
            changed[at] = way
            yield changed if isinstance(value, list) else tuple(changed)


class Conventions(unittest.TestCase):
    def refused(self, told, function, given):
        name, value = told
        with self.assertRaises(errors.RuleError, msg=(function.__name__, given)) as caught:
            function(**given)
        self.assertIs(caught.exception.__class__, getattr(errors, name), (function.__name__, given))
        if name in ("BadBook", "BadNumber"):
            self.assertEqual(caught.exception.part, value, (function.__name__, given))

    def test_each_function_of_the_files_is_called_here(self):
        called = [function.__name__ for function, _ in calls.CALLS]
        self.assertEqual(len(called), len(set(called)))
        for names in calls.INTERFACE.values():
            for name in names:
                self.assertIn(name, called)

    def test_each_file_and_name_of_the_document(self):
        path = os.path.join(os.path.dirname(os.path.abspath(__file__)), "..", "..", "shared", "DOC.md")
        if not os.path.exists(path):
            self.skipTest("the document is not at hand")
        with open(path, encoding="utf-8") as file:
            lines = re.findall(r"^- ruleshadows/(\w+)\.py: (.*)$", file.read(), re.MULTILINE)
        listed = {name: tuple(behind.split(", ")) for name, behind in lines if name != "errors"}
        self.assertEqual(listed, calls.INTERFACE)

    def test_defined_in_their_files(self):
        for file, names in calls.INTERFACE.items():
            for name in names:
                module = __import__("ruleshadows." + file, fromlist=[name])
                self.assertEqual(getattr(module, name).__module__, "ruleshadows." + file)

    def test_parameters_by_name_and_by_place(self):
        for function, given in calls.CALLS:
            self.assertEqual(list(inspect.signature(function).parameters), list(given), function.__name__)
            self.assertEqual(shape(function(**given)), shape(function(*given.values())), function.__name__)

    def test_lists_and_tuples_alike(self):
        for function, given in calls.CALLS:
            wanted = shape(function(**given))
            for kind in (list, tuple):
                other = {name: value if (function.__name__, name) in calls.TUPLES else turned(value, kind)
                         for name, value in given.items()}
                self.assertEqual(shape(function(**other)), wanted, (function.__name__, kind))

    def test_nothing_handed_in_is_changed(self):
        for function, given in calls.CALLS:
            before = {name: shape(copy.deepcopy(value)) for name, value in given.items()}
            function(**given)
            self.assertEqual({name: shape(value) for name, value in given.items()}, before, function.__name__)

    def test_equal_and_new_each_time(self):
        for function, given in calls.CALLS:
            found = function(**given)
            wanted = shape(found)
            spoil(found)
            self.assertEqual(shape(function(**given)), wanted, function.__name__)
            self.assertEqual(shape(function(**copy.deepcopy(given))), wanted, function.__name__)

    def test_true_and_false_are_no_numbers(self):
        for function, given in calls.CALLS:
            for name, value in given.items():
                if (function.__name__, name) in calls.ANY or name in calls.OTHERS:
                    continue
                if isinstance(value, int):
                    for wrong in (True, False):
                        self.refused(calls.error_of(name), function, {**given, name: wrong})
                if isinstance(value, (list, tuple)):
                    for wrong in with_true(value):
                        self.refused(calls.row_error_of(function.__name__, name), function, {**given, name: wrong})

    def test_wrong_books_are_told_ahead_of_all_else(self):
        for function, given in calls.CALLS:
            for name, value in given.items():
                if isinstance(value, (Rules, Lowered)):
                    error, other_kind = (errors.BadBook, calls.LOW) if isinstance(value, Rules) else (
                        errors.BadLower, calls.BENT)
                    for wrong in (None, True, 3, "book", [value], vars(value), other_kind):
                        wrongs = {other: kept if isinstance(kept, Rules) else None for other, kept in given.items()}
                        with self.assertRaises(error, msg=function.__name__) as caught:
                            function(**{**wrongs, name: wrong})
                        self.assertIsNone(getattr(caught.exception, "part", None))

    def test_two_wrong_books_the_first_one_is_told(self):
        for function, given in calls.CALLS:
            wrong = {name: None if isinstance(value, Rules) else value for name, value in given.items()}
            if wrong != given:
                self.refused(("BadBook", None), function, wrong)

    def test_two_or_three_books_have_one_prime(self):
        some = 0
        for function, given in calls.CALLS:
            names = [name for name, value in given.items() if isinstance(value, Rules)]
            for name in names[1:]:
                some += 1
                wrongs = {other: given[other] if other in names else None for other in given}
                wrongs[name] = Rules(7, given[name].letters, [])
                self.refused(("BadBook", "prime"), function, wrongs)
        self.assertGreater(some, 20)

    def test_wrong_kinds_are_told_from_left_to_right(self):
        for function, given in calls.CALLS:
            names = [name for name in given if (function.__name__, name) not in calls.ANY and name not in calls.OTHERS]
            for at, name in enumerate(names):
                if isinstance(given[name], (Rules, Lowered)):
                    continue
                wrongs = {**given, **{other: None for other in names[at:]}}
                told = calls.row_error_of(function.__name__, name)
                if isinstance(given[name], int):
                    told = calls.error_of(name)
                if (function.__name__, name) in calls.LATER:
                    continue
                self.refused(told, function, wrongs)

    def lived(self, name):
        """A live rule book or a desk that some deeds have been done to, one of them taken back."""
        made = {"LiveBook": LiveBook, "Desk": Desk}[name](calls.START)
        live = made if name == "LiveBook" else made.live
        live.mark("m")
        live.watch_sum("a", 1, [1, 7])
        live.watch_tell("c", 1, [1, 2])
        for deed in (("back",), ("put", [0, 1, 0, 0]), ("shadow",)):
            live.do(deed)
        live.undo()
        return made

    def test_methods(self):
        kinds = {"LiveBook": LiveBook, "Desk": Desk}
        for kind, name, given in calls.METHODS:
            self.assertIn(name, vars(kinds[kind]), name)
            one, other, third = self.lived(kind), self.lived(kind), self.lived(kind)
            self.assertEqual(list(inspect.signature(getattr(one, name)).parameters), list(given), name)
            before = shape(copy.deepcopy(given))
            found = getattr(one, name)(**given)
            wanted = shape(found)
            self.assertEqual(shape(getattr(other, name)(*given.values())), wanted, name)
            as_tuples = {key: turned(value, tuple) for key, value in given.items()}
            self.assertEqual(shape(getattr(third, name)(**as_tuples)), wanted, name)
            self.assertEqual(shape(one), shape(other), name)
            self.assertEqual(shape(one), shape(third), name)
            self.assertEqual(shape(given), before, name)
            # What is returned is new: to change it changes nothing.
            kept = shape(one)
            spoil(found)
            self.assertEqual(shape(one), kept, name)

    def test_attributes_of_live_books_and_desks(self):
        made = self.lived("LiveBook")
        self.assertEqual((made.prime, made.start, made.standing), (5, ("rules", 5, 2, ((1, 2, 0, 4), (0, 0, 1, 3))), 2))
        self.assertEqual(book_text(made.book).split("\n")[0], "book 5 2")
        self.assertIsInstance(self.lived("Desk").live, LiveBook)

    def test_objects_are_equal_to_no_value_of_another_kind(self):
        made = [calls.BENT, calls.LOW, calls.LIVE, Desk(calls.START)]
        for k, one in enumerate(made):
            self.assertEqual(one, one)
            for other in made[:k] + made[k + 1:] + [None, True, 0, "", (), [], {}, vars(one), shape(one)]:
                self.assertFalse(one == other)
                self.assertTrue(one != other)


if __name__ == "__main__":
    unittest.main()
