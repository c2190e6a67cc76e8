"""What the tests of several files share."""

import unittest

from keenlot.errors import CannotDo, Impossible, MissingTool, TooSharp


class Case(unittest.TestCase):
    def raised(self, error, function, *arguments, **named):
        with self.assertRaises(error, msg=f"{function.__name__}{arguments} {named}") as caught:
            function(*arguments, **named)
        self.assertIs(type(caught.exception), error)
        return caught.exception

    def cannot(self, function, *arguments, **named):
        error = self.raised(CannotDo, function, *arguments, **named)
        return error.index, error.lot, error.day

    def missing(self, function, *arguments):
        return self.raised(MissingTool, function, *arguments).tool

    def impossible(self, function, *arguments, **named):
        return self.raised(Impossible, function, *arguments, **named).need

    def too_sharp(self, function, *arguments, **named):
        return self.raised(TooSharp, function, *arguments, **named).tool
