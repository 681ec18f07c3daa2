"""The refusals: six classes under one base, none under another [2]."""

import unittest

from zipspring.errors import NoName, NoRow, NoText, Told, TooBig, Waits, ZipError

SIX = (NoText, TooBig, Told, Waits, NoName, NoRow)


class Refusals(unittest.TestCase):
    def test_the_base_is_a_value_error(self):
        self.assertTrue(issubclass(ZipError, ValueError))
        self.assertIsInstance(ZipError("why"), ValueError)

    def test_each_stands_under_the_base(self):
        for kind in SIX:
            with self.subTest(kind.__name__):
                self.assertTrue(issubclass(kind, ZipError))
                self.assertTrue(issubclass(kind, ValueError))
                self.assertIsNot(kind, ZipError)

    def test_none_stands_under_another(self):
        self.assertEqual(6, len(set(SIX)))
        for kind in SIX:
            for other in SIX:
                if kind is not other:
                    with self.subTest(kind.__name__ + " " + other.__name__):
                        self.assertFalse(issubclass(kind, other))

    def test_each_is_made_of_a_text(self):
        for kind in (ZipError,) + SIX:
            for text in ("", "why", "a text of some words"):
                with self.subTest(kind.__name__ + " " + text):
                    with self.assertRaises(ZipError) as caught:
                        raise kind(text)
                    self.assertIs(kind, caught.exception.__class__)
                    self.assertEqual(text, str(caught.exception))

    def test_names(self):
        names = ["NoText", "TooBig", "Told", "Waits", "NoName", "NoRow"]
        self.assertEqual(names, [kind.__name__ for kind in SIX])
