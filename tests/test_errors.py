"""The errors: point 51 and the interface."""

import unittest

from neverrounds import errors

PLAIN = {
    "BadSpan": ("place", 3),
    "BadModulus": ("number", -10 ** 59),
    "BadName": ("name", "East"),
    "BadStay": ("step", 2),
    "BadCount": ("count", 7),
    "NoStep": ("step", -1),
    "BadLag": ("number", -1),
    "BadLengths": ("step", 0),
    "BadLength": ("number", 0),
    "BadLimit": ("number", 9),
    "BadNumber": ("text", "+1"),
    "BadText": ("place", 4),
    "BadLine": ("number", 5),
}
REFUSED = {
    "NameTaken": ("name", "red", "taken red"),
    "UnknownGroup": ("name", "blue", "unknown blue"),
    "Full": ("number", 8, "full 8"),
    "TooFew": ("count", 3, "few 3"),
    "Closed": ("place", 2, "closed 2"),
    "Clash": ("name", "green", "clash green"),
}
BARE = {"NotFitting": "unfit", "NothingToUndo": "nothing", "NothingToRedo": "nothing"}


def made_errors():
    """One error of each class but RoundsError and Refused, made by hand, by the name of its class."""
    made = {name: getattr(errors, name)(value) for name, (_, value) in PLAIN.items()}
    made.update({name: getattr(errors, name)(value) for name, (_, value, _) in REFUSED.items()})
    made.update({name: getattr(errors, name)() for name in BARE})
    return made


class ErrorsTest(unittest.TestCase):
    def test_the_argument_is_kept(self):
        for name, error in made_errors().items():
            attribute, value = {**PLAIN, **REFUSED}.get(name, (None, None))[:2]
            if attribute is not None:
                with self.subTest(name):
                    self.assertEqual(getattr(error, attribute), value)
                    self.assertIs(type(getattr(error, attribute)), type(value))

    def test_the_argument_may_be_any_value_of_its_kind(self):
        self.assertEqual(errors.BadName("").name, "")
        self.assertEqual(errors.BadName("{x}").name, "{x}")
        self.assertEqual(errors.BadNumber("").text, "")
        self.assertEqual(errors.BadSpan(1).place, 1)
        self.assertEqual(errors.BadCount(0).count, 0)
        self.assertEqual(errors.BadModulus(10 ** 60).number, 10 ** 60)

    def test_every_error_is_a_rounds_error(self):
        for name, error in made_errors().items():
            with self.subTest(name):
                self.assertIsInstance(error, errors.RoundsError)
                self.assertIsInstance(error, ValueError)

    def test_which_errors_are_refused(self):
        for name, error in made_errors().items():
            with self.subTest(name):
                self.assertEqual(isinstance(error, errors.Refused), name in REFUSED or name in BARE)

    def test_no_error_stands_under_another_one(self):
        for name, error in made_errors().items():
            for other in made_errors():
                with self.subTest(name=name, other=other):
                    self.assertEqual(isinstance(error, getattr(errors, other)), name == other)

    def test_reasons(self):
        for name, (_, value, reason) in REFUSED.items():
            with self.subTest(name):
                self.assertEqual(getattr(errors, name)(value).reason, reason)
        for name, reason in BARE.items():
            with self.subTest(name):
                self.assertEqual(getattr(errors, name)().reason, reason)

    def test_reasons_hold_the_argument_as_it_is(self):
        self.assertEqual(errors.NameTaken("a b").reason, "taken a b")
        self.assertEqual(errors.UnknownGroup("").reason, "unknown ")
        self.assertEqual(errors.TooFew(10 ** 55).reason, "few 1" + "0" * 55)

    def test_only_refused_errors_have_a_reason(self):
        for name in PLAIN:
            with self.subTest(name):
                self.assertFalse(hasattr(made_errors()[name], "reason"))

    def test_the_base_classes(self):
        self.assertIsInstance(errors.RoundsError(), ValueError)
        self.assertNotIsInstance(errors.RoundsError(), errors.Refused)
        refused = errors.Refused("late")
        self.assertEqual(refused.reason, "late")
        self.assertIsInstance(refused, errors.RoundsError)
        for name in made_errors():
            with self.subTest(name):
                self.assertNotIsInstance(refused, getattr(errors, name))

    def test_each_error_can_be_raised_and_caught_by_its_name(self):
        for name, error in made_errors().items():
            with self.subTest(name):
                with self.assertRaises(getattr(errors, name)) as caught:
                    raise error
                self.assertIs(caught.exception, error)


if __name__ == "__main__":
    unittest.main()
