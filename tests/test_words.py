"""words: kept words and names [10], the words of a text [11]."""

import unittest

from saidandasked.errors import BadText
from saidandasked.words import KEPT, is_name, words_of
from tests import plain, samples


class Names(unittest.TestCase):
    def test_kept(self):
        self.assertIsInstance(KEPT, tuple)
        self.assertEqual(list(KEPT), plain.KEPT)
        self.assertEqual(len(KEPT), 19)

    def test_names(self):
        for name in ("a", "z", "abcdefgh", "yes", "calls", "asks", "type", "end", "nodes", "say", "if"):
            self.assertIs(is_name(name), True, name)

    def test_no_names(self):
        for name in KEPT + ("", "abcdefghi", "A", "aB", "a1", "a_b", " a", "a ", "a\n", "-", "\xe9", "a\xdf", "`", "{"):
            self.assertIs(is_name(name), False, name)

    def test_any_value(self):
        for thing in samples.ODD:
            self.assertIs(is_name(thing), plain.name_form(thing), thing)


class Words(unittest.TestCase):
    def test_words(self):
        self.assertEqual(words_of("house call"), [("house", 1, 1), ("call", 1, 7)])
        self.assertEqual(words_of("a:b,c"), [("a", 1, 1), (":", 1, 2), ("b", 1, 3), (",", 1, 4), ("c", 1, 5)])
        self.assertEqual(words_of("  Ab_9 x\n\n y--~"), [
            ("Ab_9", 1, 3), ("x", 1, 8), ("y", 3, 2), ("-", 3, 3), ("-", 3, 4), ("~", 3, 5)])
        self.assertEqual(words_of("a\nb"), [("a", 1, 1), ("b", 2, 1)])
        self.assertEqual(words_of("007 0x1F _ __"), [("007", 1, 1), ("0x1F", 1, 5), ("_", 1, 10), ("__", 1, 12)])

    def test_no_words(self):
        for text in ("", " ", "\n", " \n  \n"):
            self.assertEqual(words_of(text), [])

    def test_every_sign(self):
        for code in range(32, 127):
            sign = chr(code)
            told = words_of("a" + sign + "a")
            if sign == " ":
                self.assertEqual(told, [("a", 1, 1), ("a", 1, 3)])
            elif sign.isalnum() or sign == "_":
                self.assertEqual(told, [("a" + sign + "a", 1, 1)])
            else:
                self.assertEqual(told, [("a", 1, 1), (sign, 1, 2), ("a", 1, 3)])
        for code in [*range(32), *range(127, 400), 0x2028, 0x1D7D9]:
            if code != 10:
                self.bad("a" + chr(code) + "a")

    def bad(self, text):
        with self.assertRaises(BadText) as caught:
            words_of(text)
        error = caught.exception
        self.assertEqual((error.line, error.column, error.wanted), (None, None, None))

    def test_no_text(self):
        for thing in samples.ODD:
            if not isinstance(thing, str):
                self.bad(thing)
        for text in ("\t", "a\r\nb", "\x0b", "\x7f", "\x1f", "a\u00e9", "\u0660", "\x85", "\u2028", "ok\x00"):
            self.bad(text)

    def test_lists_are_new(self):
        one = words_of("a b")
        one.clear()
        self.assertEqual(words_of(text="a b"), [("a", 1, 1), ("b", 1, 3)])
        self.assertIsInstance(words_of("a"), list)
        self.assertIsInstance(words_of("a")[0], tuple)

    def test_long_text(self):
        told = words_of("ab " * 6000)
        self.assertEqual(len(told), 6000)
        self.assertEqual(told[-1], ("ab", 1, 17998))
        self.assertEqual(words_of("x\n" * 900)[-1], ("x", 900, 1))


if __name__ == "__main__":
    unittest.main()
