import unittest

import narrowkeys.errors as errors
from odd import odd_values

FIELDS = {
    "Wrong": "place", "Apart": "pair", "TooMany": "limit", "NoQuestion": "question", "NoNumber": "number",
    "Unserved": "question", "NoOrder": "pair", "Unfit": None, "NoColumn": "column", "NoText": None,
    "NoDeed": None, "Full": "limit", "Refused": "deed", "Nothing": None, "NoEntry": "many", "NoCommand": None,
}


def made(name):
    return getattr(errors, name)(0) if FIELDS[name] else getattr(errors, name)()


class ErrorsTest(unittest.TestCase):
    def test_there_are_just_these_classes(self):
        found = [name for name, thing in vars(errors).items() if isinstance(thing, type)]
        self.assertEqual(sorted([*FIELDS, "KeysError"]), sorted(found))

    def test_keys_error_is_a_value_error(self):
        self.assertTrue(issubclass(errors.KeysError, ValueError))
        self.assertIsInstance(errors.KeysError(), ValueError)

    def test_each_is_a_keys_error_and_none_of_the_others(self):
        for name in FIELDS:
            one = getattr(errors, name)
            self.assertTrue(issubclass(one, errors.KeysError), name)
            self.assertTrue(issubclass(one, ValueError), name)
            self.assertFalse(issubclass(errors.KeysError, one), name)
            for other in FIELDS:
                if other != name:
                    self.assertFalse(issubclass(one, getattr(errors, other)), (name, other))

    def test_each_is_caught_as_itself_and_as_keys_error(self):
        for name in FIELDS:
            for caught in (getattr(errors, name), errors.KeysError, ValueError):
                with self.assertRaises(caught):
                    raise made(name)

    def test_fields_are_the_very_objects(self):
        for name, field in FIELDS.items():
            if field is None:
                self.assertEqual({}, vars(made(name)))
                continue
            for value in odd_values():
                one = getattr(errors, name)(value)
                self.assertIs(value, getattr(one, field))
                self.assertEqual([field], list(vars(one)))

    def test_a_kept_list_is_no_copy(self):
        kept = [1]
        error = errors.Refused(kept)
        kept.append(2)
        self.assertEqual([1, 2], error.deed)


if __name__ == "__main__":
    unittest.main()
