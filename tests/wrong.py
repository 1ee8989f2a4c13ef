"""What tests share: checks of errors, and of families."""

import unittest

from facesagain.errors import Impossible, InvalidSheet
from facesagain.gaps import conflict_of
from facesagain.sheets import sheet_of
from tests.samples import is_plain_family, sheet_by_hand, wrong_sheets


class WrongCalls(unittest.TestCase):
    def check_error(self, expected, call, *told):
        """The call raises exactly this class; its error is returned."""
        try:
            answer = call(*told)
        except Exception as error:
            self.assertIs(type(error), expected, (call.__name__, told))
            return error
        self.fail(f"{call.__name__}{told!r} raised no {expected.__name__} but returned {answer!r}")

    def check_wrong_sheets(self, call, *rest):
        for sheet in wrong_sheets():
            self.check_error(InvalidSheet, call, sheet, *rest)

    def check_impossible(self, sheet, call, *told):
        """The call raises Impossible with what conflict_of tells."""
        error = self.check_error(Impossible, call, *told)
        self.assertEqual((error.word, error.first, error.second), conflict_of(sheet))

    def check_family(self, sheet, family):
        """It is a family by the words of point 3 that has the sheet."""
        count, width = len(sheet), len(sheet[-1])
        self.assertTrue(is_plain_family(family, count))
        counted = sheet_by_hand if count <= 9 else sheet_of
        self.assertEqual(counted(family, count, width), sheet)
