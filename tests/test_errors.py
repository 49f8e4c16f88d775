import unittest

from samples_of_values import NEVER_VALID
from seenrules import errors

BASES = {"SeenError": ValueError, "AbsentError": KeyError, "StateError": LookupError}

FIELDS = {
    "SeenError": {
        "InvalidAnswer": "value",
        "InvalidAnswers": "value",
        "InvalidCase": "value",
        "InvalidClass": "value",
        "InvalidEntries": "value",
        "InvalidFields": "value",
        "InvalidHistory": "value",
        "InvalidInteger": "value",
        "InvalidKind": "value",
        "InvalidLine": "value",
        "InvalidList": "value",
        "InvalidLog": "value",
        "InvalidNames": "value",
        "InvalidRules": "value",
        "InvalidTest": "value",
        "InvalidTests": "value",
        "InvalidText": "value",
        "InvalidValues": "value",
        "InvalidWindows": "value",
        "InvalidWords": "value",
        "OtherKind": "value",
        "TooMany": "count",
    },
    "AbsentError": {"NoEntry": "value", "NoField": "value", "NoRule": "value"},
    "StateError": {"DoesNotFit": "evidence", "NothingToRedo": None, "NothingToUndo": None},
}


def listed():
    """Return tuples of a class, its base and the name of its field, for all classes but the bases."""
    return [
        (getattr(errors, name), getattr(errors, base), field)
        for base, fields in FIELDS.items()
        for name, field in fields.items()
    ]


class ErrorsTest(unittest.TestCase):
    def test_example(self):
        error = errors.InvalidCase(("a", 3))
        self.assertIsInstance(error, errors.SeenError)
        self.assertIsInstance(error, ValueError)
        self.assertEqual(error.value, ("a", 3))

    def test_bases(self):
        for name, base in BASES.items():
            with self.subTest(name):
                own = getattr(errors, name)
                self.assertEqual(own.__bases__, (base,))
                self.assertIsInstance(own("some text"), base)

    def test_each_class_is_directly_under_its_base(self):
        for own, base, field in listed():
            with self.subTest(own.__name__):
                self.assertEqual(own.__bases__, (base,))
                self.assertEqual(own.__module__, "seenrules.errors")

    def test_no_other_classes(self):
        found = [name for name, value in vars(errors).items() if isinstance(value, type)]
        names = [own.__name__ for own, base, field in listed()]
        self.assertEqual(sorted(found), sorted([*BASES, *names]))

    def test_fields_hold_the_very_object(self):
        for own, base, field in listed():
            for value in [*NEVER_VALID, 0, "a", [], ()]:
                if field is not None:
                    with self.subTest(own.__name__, value=value):
                        self.assertIs(getattr(own(value), field), value)

    def test_fields_must_be_given(self):
        for own, base, field in listed():
            with self.subTest(own.__name__):
                if field is None:
                    self.assertIsInstance(own(), base)
                else:
                    self.assertRaises(TypeError, own)
                    self.assertRaises(TypeError, own, 1, 2)

    def test_raised_and_caught_by_base(self):
        for own, base, field in listed():
            with self.subTest(own.__name__):
                error = own() if field is None else own([1])
                for caught in (own, base, BASES[base.__name__]):
                    with self.assertRaises(caught) as context:
                        raise error
                    self.assertIs(context.exception, error)
                self.assertIsInstance(str(error), str)
                self.assertIsInstance(repr(error), str)


if __name__ == "__main__":
    unittest.main()
