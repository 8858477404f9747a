"""The error classes: [1.1], [1.2]."""

import unittest

from signfours import errors

PLAIN = (
    "InvalidRatio", "InvalidAlgebra", "InvalidFour", "InvalidLattice", "InvalidOrder", "InvalidIdeal",
    "InvalidForm", "InvalidOperation",
)
KEEPING = {
    "InvalidNumber": (IndexError, "given"), "UnknownName": (KeyError, "wanted"),
    "TooMany": (OverflowError, "most"), "Refused": (ArithmeticError, "reason"),
    "NothingToUndo": (LookupError, "steps"),
}
ALL = PLAIN + ("FourError", "ParseError") + tuple(KEEPING)


class Errors(unittest.TestCase):

    def test_direct_bases(self):
        self.assertEqual(errors.FourError.__bases__, (ValueError,))
        for name in PLAIN + ("ParseError",):
            self.assertEqual(getattr(errors, name).__bases__, (errors.FourError,), name)
        for name, (base, _) in KEEPING.items():
            self.assertEqual(getattr(errors, name).__bases__, (base,), name)

    def test_no_other_relations(self):
        for name in ALL:
            for other in ALL:
                told = name == other or (other == "FourError" and name in PLAIN + ("ParseError",))
                self.assertEqual(issubclass(getattr(errors, name), getattr(errors, other)), told, (name, other))

    def test_messages(self):
        for name in PLAIN + ("FourError",):
            error = getattr(errors, name)
            with self.assertRaises(error) as caught:
                raise error("what is wrong")
            self.assertEqual(str(caught.exception), "what is wrong")

    def test_kept_values(self):
        for spot in (0, 2, None, True, "x", (1, [2]), {}):
            self.assertIs(errors.ParseError(spot).spot, spot)
        for given in (0, True, None, "x", (1, [2]), 10 ** 99, {}):
            self.assertIs(errors.InvalidNumber(given).given, given)
            self.assertIs(errors.UnknownName(given).wanted, given)
        for most in (30, 10 ** 8):
            self.assertEqual(errors.TooMany(most).most, most)
            self.assertEqual(errors.NothingToUndo(most).steps, most)
        for reason in (("norm",), ("odd", 3), ("broken", ("order", "a"))):
            self.assertEqual(errors.Refused(reason).reason, reason)

    def test_one_argument(self):
        for name in tuple(KEEPING) + ("ParseError",):
            with self.assertRaises(TypeError):
                getattr(errors, name)()
            with self.assertRaises(TypeError):
                getattr(errors, name)(1, 2)


if __name__ == "__main__":
    unittest.main()
