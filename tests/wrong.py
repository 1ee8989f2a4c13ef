"""What tests of wrong calls share."""

import unittest

from facesagain.errors import Impossible, InvalidSheet
from facesagain.gaps import conflict_of
from tests.samples import wrong_sheets


class WrongCalls(unittest.TestCase):
    def check_error(self, expected, call, *told):
        """The call raises exactly this class; its error is returned."""
        try:
            answer = call(*told)
        except Exception as error:
            self.assertIs(type(error), expected, (call.__name__, told))
            return error
        self.fail(f"{call.__name__}{told!r} raised no {expected.__name__} but returned {answer!r}")

    def check_wrong_sheets(self, call, *rest):
        for sheet in wrong_sheets():
            self.check_error(InvalidSheet, call, sheet, *rest)

    def check_impossible(self, sheet, call, *told):
        """The call raises Impossible with what conflict_of tells."""
        error = self.check_error(Impossible, call, *told)
        self.assertEqual((error.word, error.first, error.second), conflict_of(sheet))
