"""Promise 3 and the interface of bellnest.errors."""

import unittest

from bellnest.errors import BellError, NoBell, NoLine, NoNest, NoText, TooMany

KINDS = (
    (NoText, "place", 7),
    (NoBell, "word", -1),
    (NoNest, "bell", 3),
    (TooMany, "most", 300),
    (NoLine, "line", "no such line"),
)


class ErrorsTest(unittest.TestCase):

    def test_base_is_a_value_error(self):
        self.assertTrue(issubclass(BellError, ValueError))

    def test_each_is_a_bell_error_and_a_value_error(self):
        for kind, field, value in KINDS:
            with self.subTest(kind=kind.__name__):
                self.assertIsInstance(kind(value), BellError)
                self.assertIsInstance(kind(value), ValueError)

    def test_none_stands_under_another_one(self):
        classes = [kind for kind, field, value in KINDS]
        for kind in classes:
            for other in classes:
                with self.subTest(kind=kind.__name__, other=other.__name__):
                    self.assertEqual(issubclass(kind, other), kind is other)

    def test_base_stands_under_none_of_them(self):
        for kind, field, value in KINDS:
            with self.subTest(kind=kind.__name__):
                self.assertNotIsInstance(BellError(), kind)

    def test_each_has_its_field_when_it_is_made(self):
        for kind, field, value in KINDS:
            with self.subTest(kind=kind.__name__):
                self.assertEqual(getattr(kind(value), field), value)
                self.assertEqual(getattr(kind(**{field: value}), field), value)

    def test_fields_are_each_objects_own(self):
        for kind, field, value in KINDS:
            with self.subTest(kind=kind.__name__):
                first = kind(value)
                kind(0)
                self.assertEqual(getattr(first, field), value)
                self.assertFalse(hasattr(kind, field))

    def test_each_is_caught_as_itself_and_as_the_base(self):
        for kind, field, value in KINDS:
            with self.subTest(kind=kind.__name__):
                with self.assertRaises(kind) as caught:
                    raise kind(value)
                self.assertEqual(getattr(caught.exception, field), value)
                with self.assertRaises(BellError):
                    raise kind(value)

    def test_none_is_caught_as_another_one(self):
        for kind, field, value in KINDS:
            others = tuple(other for other, name, same in KINDS if other is not kind)
            with self.subTest(kind=kind.__name__):
                try:
                    raise kind(value)
                except others:
                    self.fail("caught as another one")
                except kind:
                    pass


if __name__ == "__main__":
    unittest.main()
