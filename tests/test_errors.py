"""errors: PageError, the classes directly below it, and their attributes."""

import inspect
import unittest

from saidandasked import errors

PLAIN = """BadAnswer BadAnswers BadBit BadCall BadClause BadCount BadDocument BadFuture BadGroup BadHistory
BadHouse BadIndex BadLaw BadLeft BadLimit BadMany BadMeaning BadMost BadName BadNames BadNumber BadOuter BadPool
BadProgram BadPrograms BadScript BadSet BadStand BadState BadSuite BadThing BadWord Empty Ended ManyObjects
NoDifference NotAsked NotDone NotEnough NotGuessed NotMet NotOrderly NothingDone NothingUndone OtherHouse Sound
TooMany Unsound""".split()
TOLD = {
    "BadBits": ["at"], "BadDocuments": ["at"], "BadHistories": ["at"], "BadLaws": ["at"], "BadPaper": ["word"],
    "BadText": ["line", "column", "wanted"], "NotPossible": ["at"], "NotRight": ["word"], "NotTrue": ["word"],
    "OverAsks": ["at"], "Parted": ["word"], "SameName": ["name"], "TooShort": ["program"],
}


class Errors(unittest.TestCase):
    def test_all_are_there_and_no_others(self):
        found = {name for name, value in vars(errors).items() if inspect.isclass(value)}
        self.assertEqual(found, {"PageError", *PLAIN, *TOLD})
        self.assertEqual(errors.PageError.__bases__, (ValueError,))

    def test_directly_below(self):
        for name in PLAIN + list(TOLD):
            self.assertEqual(getattr(errors, name).__bases__, (errors.PageError,), name)
            self.assertEqual(getattr(errors, name).__module__, "saidandasked.errors")

    def test_messages(self):
        for name in PLAIN:
            error = getattr(errors, name)("what is wrong")
            self.assertEqual(str(error), "what is wrong")
        self.assertEqual(str(errors.PageError("so")), "so")

    def test_attributes(self):
        for name, names in TOLD.items():
            values = [("some", at) for at in range(len(names))]
            for error in (getattr(errors, name)(*values), getattr(errors, name)(**dict(zip(names, values)))):
                self.assertEqual([getattr(error, told) for told in names], values, name)
                self.assertIsInstance(str(error), str)
        self.assertIsNone(errors.BadLaws(None).at)


if __name__ == "__main__":
    unittest.main()
