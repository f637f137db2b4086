"""Point 4: the errors."""

from farstory import errors
from tests.helping import Case

OF_FAR = (
    ("BadOctets", "at"), ("BadRow", "at"), ("BadSetup", "at"), ("BadFrame", "at"), ("BadLog", "at"),
    ("BadText", "at"), ("Refused", "at"), ("TooGreat", "most"), ("Broken", "at"), ("Quarrel", "paper"),
)
OF_KEYS = (("NoClass", "value"), ("NoRow", "value"), ("NoLetter", "value"))


class Errors(Case):
    def test_base(self):
        self.assertEqual(errors.FarError.__bases__, (ValueError,))
        self.assertIsInstance(errors.FarError(), ValueError)

    def test_bases_are_direct(self):
        for name, _ in OF_FAR:
            self.assertEqual(getattr(errors, name).__bases__, (errors.FarError,), name)
        for name, _ in OF_KEYS:
            self.assertEqual(getattr(errors, name).__bases__, (KeyError,), name)

    def test_defined_there(self):
        for name, _ in OF_FAR + OF_KEYS + (("FarError", ""),):
            self.assertEqual(getattr(errors, name).__module__, "farstory.errors")
            self.assertEqual(getattr(errors, name).__name__, name)

    def test_keep_what_they_are_made_with(self):
        things = (0, -1, True, None, "a", (1, 2), [1, [2]], errors.Refused(3), (0, 9), {"a": 1})
        for name, attribute in OF_FAR + OF_KEYS:
            for thing in things:
                error = getattr(errors, name)(thing)
                self.assertIs(getattr(error, attribute), thing)
                self.assertIs(getattr(getattr(errors, name)(**{attribute: thing}), attribute), thing)

    def test_take_one_argument(self):
        for name, _ in OF_FAR + OF_KEYS:
            with self.assertRaises(TypeError):
                getattr(errors, name)()
            with self.assertRaises(TypeError):
                getattr(errors, name)(1, 2)

    def test_caught_by_the_base(self):
        for name, attribute in OF_FAR:
            with self.assertRaises(errors.FarError) as caught:
                raise getattr(errors, name)(7)
            self.assertEqual(getattr(caught.exception, attribute), 7)
        for name, attribute in OF_KEYS:
            with self.assertRaises(KeyError) as caught:
                raise getattr(errors, name)(7)
            self.assertEqual(getattr(caught.exception, attribute), 7)
            self.assertNotIsInstance(caught.exception, ValueError)
