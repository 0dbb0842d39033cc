"""Words of texts, and names."""

import unittest

from allreadings.words import is_name, is_unknown, lines
from tests.made import STRANGE, Made


class Names(unittest.TestCase):
    def test_names(self):
        for name in ["a", "z9", "abcdefgh", "a1234567", "at", "slack", "unknowns", "x0"]:
            self.assertIs(is_name(name), True)
            self.assertIs(is_unknown(name), name not in ("at", "slack"))
        for value in ["", "1a", "9", "abcdefghi", "A", "aB", "a b", "a_", "x'", " a", "a ", "a\n", "\n", "a-b", "~"]:
            self.assertIs(is_name(value), False, value)
            self.assertIs(is_unknown(value), False, value)
        for value in [None, 1, True, [], ["a"], ("a",), ("a", "b"), [None]]:
            self.assertIs(is_name(value=value), False)
            self.assertIs(is_unknown(value=value), False)

    def test_any_value(self):
        for value in STRANGE + [chr(code) for code in range(32, 127)]:
            expected = isinstance(value, str) and value.isalnum() and value.islower() and not value[0].isdigit()
            self.assertIs(is_name(value), expected and len(value) <= 8)


class Lines(unittest.TestCase):
    def test_edges(self):
        self.assertEqual(lines(""), [[(0, "")]])
        self.assertEqual(lines("\n"), [[(0, "")], [(0, "")]])
        self.assertEqual(lines("\na\n\n"), [[(0, "")], [(0, "a"), (1, "")], [(0, "")], [(0, "")]])
        self.assertEqual(lines("   "), [[(3, "")]])
        self.assertEqual(lines("#"), [[(1, "")]])
        self.assertEqual(lines("a # b <= # c\nb"), [[(0, "a"), (12, "")], [(0, "b"), (1, "")]])
        self.assertEqual(lines(text="  ab12c  "), [[(2, "ab12c"), (9, "")]])

    def test_words(self):
        self.assertEqual(
            [word for _, word in lines("step 0: x' <= 2x+1")[0]],
            ["step", "0", ":", "x", "'", "<=", "2x", "+", "1", ""])
        self.assertEqual([word for _, word in lines("<>=<=>==<")[0]], ["<", ">=", "<=", ">=", "=", "<", ""])
        self.assertEqual([word for _, word in lines("< =a>b")[0]], ["<", "=", "a", ">", "b", ""])
        self.assertEqual([word for _, word in lines("aBc__!\"")[0]], ["a", "B", "c", "_", "_", "!", "\"", ""])
        self.assertEqual(lines("1/2"), [[(0, "1"), (1, "/"), (2, "2"), (3, "")]])
        self.assertEqual(lines("<#="), [[(0, "<"), (3, "")]])

    def test_made(self):
        made = Made(1)
        signs = "ab1<>=#' :+\n -Z~"
        for _ in range(300):
            text = "".join(signs[made.number(0, len(signs) - 1)] for _ in range(made.number(0, 25)))
            told = lines(text)
            self.assertEqual(len(told), text.count("\n") + 1)
            for line, words in zip(text.split("\n"), told):
                self.assertEqual(words[-1], (len(line), ""))
                read = line.split("#")[0]
                covered = [" "] * len(read)
                for spot, word in words[:-1]:
                    covered[spot:spot + len(word)] = word
                    self.assertTrue(word in ("<=", ">=") or len(word) == 1 or (word.isalnum() and word.islower()
                                                                              or word.isdigit()))
                self.assertEqual("".join(covered), read)
                for (spot, word), (after, other) in zip(words, words[1:]):
                    self.assertLessEqual(spot + len(word), after)
                    if spot + len(word) == after and other:
                        joined = word[-1] + other[0]
                        small = all(sign in "ab1" for sign in joined)
                        self.assertFalse(small or joined in ("<=", ">=") and len(word) == 1)


if __name__ == "__main__":
    unittest.main()
