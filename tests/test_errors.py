"""Promise [3]: the errors, what they keep, and what they stand under."""

import unittest

from quillmoot import errors

# the parameters of each error, each with a value of its kind
ERRORS = {
    "InvalidDeed": {"value": (1, 2, 3)},
    "InvalidHistory": {"value": [((), None)]},
    "InvalidClock": {"value": (0, 0, 0)},
    "InvalidNumber": {"value": -1},
    "InvalidText": {"text": "1.1 0.0", "at": 7},
    "Misfit": {"deed": (1, 1, (0, 0, 0, 0), ("say",))},
    "Unlike": {"deed": (2, 1, (0, 0, 0, 0), ("say",))},
    "NoBlock": {"block": (1, 4)},
    "NoSign": {"sign": (1, 4, 0)},
    "NotAllowed": {"word": "settle"},
    "Undefined": {"what": "deeds"},
}

# what an error may be told of, where it is for any value
ODD_VALUES = (None, True, False, 0, 10 ** 30, "", "abc", (), [], ((1, [2]), [None, (True,)]))


def kinds():
    return [getattr(errors, name) for name in ERRORS]


class Attributes(unittest.TestCase):
    def assert_keeps(self, error, told):
        for name, value in told.items():
            self.assertEqual(getattr(error, name), value)
            self.assertIs(getattr(error, name), value)

    def test_by_position(self):
        for name, told in ERRORS.items():
            with self.subTest(name=name):
                self.assert_keeps(getattr(errors, name)(*told.values()), told)

    def test_by_name(self):
        for name, told in ERRORS.items():
            with self.subTest(name=name):
                self.assert_keeps(getattr(errors, name)(**told), told)

    def test_raised_and_caught(self):
        for name, told in ERRORS.items():
            kind = getattr(errors, name)
            with self.subTest(name=name):
                with self.assertRaises(kind) as by_position:
                    raise kind(*told.values())
                self.assert_keeps(by_position.exception, told)
                with self.assertRaises(kind) as by_name:
                    raise kind(**told)
                self.assert_keeps(by_name.exception, told)

    def test_any_value_is_kept_as_it_is(self):
        for name in ("InvalidDeed", "InvalidHistory", "InvalidClock", "InvalidNumber"):
            for value in ODD_VALUES:
                with self.subTest(name=name, value=value):
                    self.assertIs(getattr(errors, name)(value).value, value)

    def test_text_and_place_are_not_mixed_up(self):
        error = errors.InvalidText(at=3, text="abcd")
        self.assertEqual((error.text, error.at), ("abcd", 3))
        error = errors.InvalidText("", 0)
        self.assertEqual((error.text, error.at), ("", 0))

    def test_two_errors_keep_their_own(self):
        for name, told in ERRORS.items():
            kind = getattr(errors, name)
            first, other = kind(**told), kind(**{key: None for key in told})
            with self.subTest(name=name):
                self.assert_keeps(first, told)
                self.assert_keeps(other, {key: None for key in told})

    def test_arguments_are_all_needed_and_no_more(self):
        for name, told in ERRORS.items():
            kind = getattr(errors, name)
            with self.subTest(name=name):
                self.assertRaises(TypeError, kind)
                self.assertRaises(TypeError, kind, *told.values(), None)
                self.assertRaises(TypeError, kind, other=None)


class Standing(unittest.TestCase):
    def test_there_are_eleven(self):
        self.assertEqual(len(kinds()), 11)
        self.assertEqual(len(set(kinds())), 11)

    def test_directly_under_moot_error(self):
        for kind in kinds():
            with self.subTest(kind=kind):
                self.assertEqual(kind.__bases__, (errors.MootError,))

    def test_moot_error_is_a_value_error(self):
        self.assertEqual(errors.MootError.__bases__, (ValueError,))
        for kind in kinds():
            self.assertTrue(issubclass(kind, ValueError))

    def test_under_no_other_one(self):
        for kind in kinds():
            for other in kinds():
                if kind is not other:
                    with self.subTest(kind=kind, other=other):
                        self.assertFalse(issubclass(kind, other))

    def test_caught_by_the_names_above(self):
        for name, told in ERRORS.items():
            for above in (errors.MootError, ValueError):
                with self.subTest(name=name, above=above):
                    with self.assertRaises(above):
                        raise getattr(errors, name)(**told)

    def test_moot_error_is_none_of_the_eleven(self):
        for kind in kinds():
            self.assertFalse(issubclass(errors.MootError, kind))

    def test_defined_in_its_module(self):
        for kind in kinds() + [errors.MootError]:
            self.assertEqual(kind.__module__, "quillmoot.errors")

    def test_names(self):
        for name in ERRORS:
            self.assertEqual(getattr(errors, name).__name__, name)


if __name__ == "__main__":
    unittest.main()
