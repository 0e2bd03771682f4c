"""The errors: base classes, parameters, attributes and codes."""

import unittest

from dealtpowers import errors

PARAMETERS = {
    "InvalidNumber": "given", "InvalidSystem": "at", "InvalidColumns": "given", "InvalidFact": "at",
    "InvalidExponent": "given", "InvalidFactor": "at", "InvalidGroup": "at", "InvalidClaim": "at",
    "InvalidSums": "at", "InvalidRow": "given", "InvalidDeed": "at", "InvalidName": "name",
    "InvalidText": None, "InvalidCommand": "at", "InvalidLimit": "given", "InvalidPage": "line",
    "WrongWidth": "width", "WrongSchema": "at", "WrongKind": "name", "TooMany": "most", "TooHigh": "at",
    "EqualSums": "at", "Tight": "paper", "Boundless": None, "NoTable": None, "NotThere": None,
    "BrokenClaim": "broken", "DuplicateName": "name", "Full": "limit", "Empty": None,
    "UnknownName": "name", "NothingLeft": None,
}
BASES = {"UnknownName": errors.Missing, "NothingLeft": IndexError}
ANY_VALUES = [None, True, False, 0, -7, 10 ** 60, "", "some text\n", (), (1, "a", (None,)), [], [1, [2, (3, [4])]],
              ([1], [2])]


def own_classes():
    return {name: item for name, item in vars(errors).items()
            if isinstance(item, type) and issubclass(item, BaseException)}


class ErrorsTest(unittest.TestCase):
    def test_all_are_there_and_no_others(self):
        self.assertEqual(set(own_classes()), set(PARAMETERS) | {"DealError", "Missing"})
        for name, item in own_classes().items():
            self.assertEqual(item.__module__, "dealtpowers.errors", name)

    def test_direct_bases(self):
        self.assertEqual(errors.DealError.__bases__, (ValueError,))
        self.assertEqual(errors.Missing.__bases__, (LookupError,))
        for name in PARAMETERS:
            self.assertEqual(getattr(errors, name).__bases__, (BASES.get(name, errors.DealError),), name)

    def test_only_two_have_subclasses(self):
        for name, item in own_classes().items():
            self.assertEqual(bool(item.__subclasses__()), name in ("DealError", "Missing"), name)

    def test_attributes_by_position_and_by_name(self):
        for name, parameter in PARAMETERS.items():
            if parameter is None:
                continue
            for value in ANY_VALUES + [errors.Empty()]:
                for error in (getattr(errors, name)(value), getattr(errors, name)(**{parameter: value})):
                    held = getattr(error, parameter)
                    self.assertEqual(held, value, name)
                    self.assertIs(type(held), type(value), name)
                    self.assertEqual(error.code, name)

    def test_parameters_are_wanted(self):
        for name, parameter in PARAMETERS.items():
            item = getattr(errors, name)
            with self.assertRaises(TypeError):
                item(1, 2)
            with self.assertRaises(TypeError):
                item(1) if parameter is None else item()

    def test_code(self):
        for name, parameter in PARAMETERS.items():
            item = getattr(errors, name)
            error = item() if parameter is None else item(3)
            self.assertEqual(error.code, name)
            self.assertNotIn("code", vars(item))
        self.assertFalse(hasattr(errors.DealError(), "code"))
        self.assertFalse(hasattr(errors.Missing(), "code"))

    def test_lists_are_copied(self):
        inner = [2]
        given = [1, inner, (inner,)]
        error = errors.InvalidNumber(given)
        given.append(4)
        inner.append(3)
        self.assertEqual(error.given, [1, [2], ([2],)])

    def test_they_are_raised_and_caught_by_their_bases(self):
        with self.assertRaises(ValueError):
            raise errors.Full(3)
        with self.assertRaises(LookupError):
            raise errors.UnknownName("a")
        with self.assertRaises(IndexError):
            raise errors.NothingLeft()


if __name__ == "__main__":
    unittest.main()
