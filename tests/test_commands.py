"""Commands and deeds: which values are some."""

import unittest

from allreadings.commands import is_command, is_deed
from tests.made import BIG, STRANGE, changed, with_bools, with_kinds

CART = (1, 2, [((-1,), 0)], [[((-1, 1), 2), ((1, -1), 0)]], [("a", (1,), (1, 1))])
# Each command of fixed kinds, and each with values of any kind.
FIXED = [("new", "c", CART), ("read", "c", "unknowns x"), ("read", "c", ""), ("drop", "c"), ("merge", "c", "d"), ("merge", "c", "c"),
         ("renew", "n1"), ("forget", "n1"), ("told", "c", 0), ("told", "c", BIG), ("undo",), ("redo",)]
ANY = [("take", "c", ("back", "s")), ("note", "n1", "c", ("course",)), ("attach", "n1", "c", ("course",), ("yes", [])), ("ask", "c", ("extra",))]


class Commands(unittest.TestCase):
    def test_fixed(self):
        for command in FIXED:
            self.assertIs(is_command(value=command), True, command)
            for other in [*with_bools(command), *with_kinds(command)]:
                self.assertIs(is_command(other), False, other)
            for other in changed(command):
                self.assertIsInstance(is_command(other), bool)
            self.assertIs(is_command(command + (0,)), False)
            self.assertIs(is_command(command[:-1]), False)

    def test_any(self):
        for command in ANY:
            self.assertIs(is_command(command), True)
            self.assertIs(is_command(list(command)), False)
            self.assertIs(is_command(command[:-1]), False)
            self.assertIs(is_command(command + (0,)), False)
            for value in STRANGE:
                self.assertIs(is_command(command[:-1] + (value,)), True)
                if command[0] == "attach":
                    self.assertIs(is_command(command[:-2] + (value, value)), True)
                for place in range(1, 3 if command[0] in ("note", "attach") else 2):
                    other = command[:place] + (value,) + command[place + 1:]
                    self.assertIs(is_command(other), isinstance(value, str) and value in ("a", "point", "worth", "shape", "empty", "none"))

    def test_wrong(self):
        for value in STRANGE + ["undo", ["undo"], ("Undo",), ("undo", None), ("",), (None,), (["new"], "c", CART), ("new", "c", None),
                                ("new", "C", CART), ("new", "", CART), ("new", "c", CART[:4]), ("read", "c", None), ("read", "c", ["x"]),
                                ("drop", None), ("drop", ["c"]), ("drop", "abcdefghi"), ("merge", "c", None), ("renew", 1), ("forget", ()),
                                ("told", "c", -1), ("told", "c", True), ("told", "c", None), ("told", "c", "0"), ("told", 0, "c"), ("log",),
                                ("take", "c"), ("ask", "c"), (True,), (0,), (("undo",),)]:
            self.assertIs(is_command(value), False, value)

    def test_deeds(self):
        deeds = {"new", "read", "drop", "take", "merge", "note", "attach", "renew", "forget"}
        for command in FIXED + ANY:
            self.assertIs(is_deed(command=command), command[0] in deeds)
        self.assertEqual({command[0] for command in FIXED + ANY}, deeds | {"told", "ask", "undo", "redo"})


if __name__ == "__main__":
    unittest.main()
