import unittest

from poleribbons import errors
from samples import ODD_VALUES

FIELDS = {
    "Wrong": "place", "NoRule": "thing", "NoMeeting": "meeting", "NoRibbon": "ribbon", "NoRing": "ring",
    "NoCloth": "number", "NoSlip": "thing", "Unfit": None, "TooMany": "limit", "NotLaid": "meeting",
    "NoDeed": "deed", "Refused": "deed", "Full": "limit", "Nothing": None, "NoEntry": "many", "NoText": "text",
    "Broken": "line", "NoCommand": "line",
}


def made(name):
    """Errors of this class, each with what it was made of."""
    kind = getattr(errors, name)
    if FIELDS[name] is None:
        return [(kind(), None)]
    return [(kind(value), value) for value in ODD_VALUES]


class Errors(unittest.TestCase):
    def test_ribbon_error_is_a_value_error(self):
        self.assertEqual(errors.RibbonError.__bases__, (ValueError,))

    def test_the_base_of_each_is_ribbon_error_alone(self):
        for name in FIELDS:
            self.assertEqual(getattr(errors, name).__bases__, (errors.RibbonError,), name)
            self.assertEqual(getattr(errors, name).__name__, name)

    def test_there_are_no_others(self):
        found = {name for name, thing in vars(errors).items() if isinstance(thing, type)}
        self.assertEqual(found, set(FIELDS) | {"RibbonError"})

    def test_each_is_caught_as_ribbon_error_and_as_value_error(self):
        for name in FIELDS:
            for error, _ in made(name):
                for caught in (getattr(errors, name), errors.RibbonError, ValueError):
                    with self.assertRaises(caught) as context:
                        raise error
                    self.assertIs(context.exception, error)

    def test_fields_are_the_very_objects(self):
        for name, field in FIELDS.items():
            for error, value in made(name):
                if field is not None:
                    self.assertIs(getattr(error, field), value)

    def test_fields_may_be_passed_by_name(self):
        thing = [1]
        self.assertIs(errors.NoRule(thing=thing).thing, thing)
        self.assertIs(errors.Wrong(place=thing).place, thing)

    def test_what_is_kept_is_not_copied(self):
        thing = []
        error = errors.NoRing(thing)
        thing.append(1)
        self.assertEqual(error.ring, [1])

    def test_no_one_is_caught_as_another_one(self):
        for name in FIELDS:
            for other in FIELDS:
                related = issubclass(getattr(errors, name), getattr(errors, other))
                self.assertEqual(related, name == other)


if __name__ == "__main__":
    unittest.main()
