"""What the test cases of all files share."""

import copy
import doctest
import random
import reprlib
import unittest

from tests.samples import HUGE, ODD_OBJECTS, Rough


class Case(unittest.TestCase):
    """A test case that checks errors, examples and copies."""

    def refused(self, error, call, *arguments):
        """Check that a call raises just this error, and return it."""
        try:
            result = call(*arguments)
        except Exception as raised:
            if type(raised) is not error:
                self.fail(f"{raised!r} for {reprlib.repr(arguments)}")
            return raised
        return self.fail(f"{reprlib.repr(arguments)} gave {result!r} instead of {error.__name__}")

    def check_arguments(self, call, *arguments):
        """Check a call with right arguments, with each wrong one, and with wrong ones behind it.

        Each argument is given as a right value, the error for a wrong one, and wrong ones.
        """
        right = [argument[0] for argument in arguments]
        before = copy.deepcopy(right)
        call(*right)
        self.assertEqual(right, before)
        for at, (_, error, wrongs) in enumerate(arguments):
            for wrong in wrongs:
                self.refused(error, call, *right[:at], wrong, *right[at + 1:])
                # Of two errors the one that is named first is raised.
                behind = [argument[2][0] for argument in arguments[at + 1:]]
                self.refused(error, call, *right[:at], wrong, *behind)
        self.assertEqual(right, before)

    def check_dict(self, shows, right, strangers):
        """Check that a dict is shown in any order, and only with just its keys and values.

        The strangers are keys that it has not.
        """
        names = list(right)
        random.Random(1).shuffle(names)
        for order in (list(right), names, names[::-1]):
            self.assertTrue(shows({name: right[name] for name in order}))
        for name in right:
            self.assertFalse(shows({other: right[other] for other in right if other != name}), name)
            for wrong in (right[name] - 1, right[name] + 1, HUGE, -HUGE):
                self.assertFalse(shows({**right, name: wrong}), (name, wrong))
            if right[name] in (0, 1):
                self.assertFalse(shows({**right, name: bool(right[name])}), name)
        for name in strangers:
            self.assertNotIn(name, right)
            for number in (0, 1, 2):
                self.assertFalse(shows({**right, name: number}), name)

    def check_equality(self, *makers):
        """Check that objects of one maker are equal, and that they are equal to nothing else."""
        for at, make in enumerate(makers):
            one, same = make(), make()
            self.assertTrue(one == same and same == one)
            self.assertFalse(one != same)
            others = [other() for place, other in enumerate(makers) if place != at]
            strangers = [odd for odd in ODD_OBJECTS if not isinstance(odd, Rough)]
            for other in others + strangers + [0, (0,), ((0, 0),), [(0,)]]:
                self.assertFalse(one == other, f"{one!r} == {other!r}")
                self.assertTrue(one != other)

    def check_examples(self, text):
        """Check that examples give the answers that are printed with them."""
        test = doctest.DocTestParser().get_doctest(text, {}, self.id(), None, 0)
        told = []
        results = doctest.DocTestRunner(verbose=False).run(test, out=told.append)
        self.assertEqual(results.failed, 0, "".join(told))
        self.assertGreater(results.attempted, 1)

