"""What tests of wrong calls share."""

import unittest

from facesagain.errors import InvalidSheet
from tests.samples import wrong_sheets


class WrongCalls(unittest.TestCase):
    def check_error(self, expected, call, *told):
        """The call raises exactly this class; its error is returned."""
        try:
            answer = call(*told)
        except Exception as error:
            self.assertIs(type(error), expected, (call.__name__, told))
            return error
        self.fail(f"{call.__name__}{told!r} raised no {expected.__name__} but returned {answer!r}")

    def check_wrong_sheets(self, call, *rest):
        for sheet in wrong_sheets():
            self.check_error(InvalidSheet, call, sheet, *rest)
