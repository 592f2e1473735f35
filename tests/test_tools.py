"""[2], [3], [11] and tools.py: what each tool returns, and what it leaves as it was."""

import copy
import unittest

from quotedback.errors import InvalidWorld, UnknownTool
from quotedback.names import DEEDS, TOOLS
from quotedback.tools import is_tool, tool
from quotedback.worlds import is_world
from tests.building import lists_in
from tests.test_worlds import WRONG_WORLDS
from tests.worlds_told import FILES, world


class ToolsTest(unittest.TestCase):
    def check(self, fields, out="", err="", status=0, text="", rest=None, files=None, folder="/", to_folder=None):
        """Checks all that a tool returns; files that are not told stay, and so does the text for `rest` None."""
        fields = fields.split(" ") if isinstance(fields, str) else fields
        told = world(folder=folder, names={"x": "1"}, arguments=["p"], status=9, functions={"f": ("group", [("do", [("x", [])], [], [])], [])})
        ahead = copy.deepcopy((fields, told))
        behind, *others = tool(fields, told, text)
        with self.subTest(fields=fields, text=text):
            self.assertEqual(others, [out, err, status, text if rest is None else rest])
            wanted = (dict(FILES if files is None else files), folder if to_folder is None else to_folder, *told[2:5], status, told[6])
            self.assertEqual(behind, wanted)
            self.assertTrue(is_world(behind))
            self.assertEqual((fields, told), ahead)
            self.assertEqual(set(lists_in(behind)) & set(lists_in((fields, told))), set())

    def lines(self, fields, text, out, status=0, rest=""):
        self.check(fields, out, "", status, text, rest)

    def wrong(self, *texts):
        for text in texts:
            fields = text if isinstance(text, list) else text.split(" ")
            self.check(fields, "", fields[0] + ": wrong\n", 2, "in\n", "in\n")

    def test_is_tool(self):
        for name in TOOLS:
            self.assertIs(is_tool(name=name), True)
        for name in DEEDS + ("", "cats", "Cat", "if", "f"):
            self.assertIs(is_tool(name), False)

    def test_cat(self):
        self.check("cat a", "1\n", text="in", rest="in")
        self.check("cat d/e a d/f/g", "x\ny1\n2")
        self.check("cat a z d a", "1\n1\n", "z: no\nd: no\n", 1)
        self.check("cat ../a", "1\n", folder="/d")
        self.check(["cat", ""], "", ": no\n", 1, text="in", rest="in")
        self.lines("cat", "x\ny", "x\ny")
        self.lines("cat", "", "")
        self.lines("cat", "\n\n", "\n\n")

    def test_keep_and_drop(self):
        text = "ab\n\nba\na*\nab"
        self.lines("keep a*", text, "ab\na*\nab\n")
        self.lines("drop a*", text, "\nba\n")
        self.lines(["keep", ""], text, "\n")
        self.lines("keep ??", text, "ab\nba\na*\nab\n")
        self.lines("keep [!a]*", text, "ba\n")
        self.lines("keep a[*]", text, "a*\n")
        self.lines("keep [", "[\n", "[\n")
        self.lines("keep z", text, "", 1)
        self.lines("drop *", text, "", 1)
        self.lines("keep *", "", "", 1)
        self.lines("drop x", "", "", 1)
        self.lines("keep *", "\n", "\n")
        self.wrong("keep", "drop", "keep a b", "drop a b")

    def test_first_and_last(self):
        self.lines("first 2", "x\ny\nz", "x\ny\n", rest="z")
        self.lines("first 1", "x\n\nz\n", "x\n", rest="\nz\n")
        self.lines("first 0", "x\n", "", rest="x\n")
        self.lines("first 3", "x\ny", "x\ny\n")
        self.lines("first 2", "x\ny", "x\ny\n")
        self.lines("first 999999999", "x", "x\n")
        self.lines("first 1", "", "")
        self.lines("last 2", "x\ny\nz", "y\nz\n")
        self.lines("last 0", "x\n", "")
        self.lines("last 5", "x\ny\n", "x\ny\n")
        self.lines("last 1", "", "")
        for name in ("first", "last"):
            self.wrong(name, name + " x", name + " -1", name + " 01", name + " 1 2", name + " +1", name + " ", name + " 1000000000", name + " 1.0")

    def test_order_once_count_number(self):
        self.lines("order", "b\na\nB\n\na", "\nB\na\na\nb\n")
        self.lines("order", "", "")
        self.lines("once", "a\na\nb\na\na", "a\nb\na\n")
        self.lines("once", "\n\n", "\n")
        self.lines("count", "a\n\nb", "3\n")
        self.lines("count", "", "0\n")
        self.lines("count", "\n", "1\n")
        self.lines("number", "a\n\nb", "1 a\n2 \n3 b\n")
        self.lines("number", "x\n" * 11, "".join(f"{at} x\n" for at in range(1, 12)))
        self.wrong("order a", "once a", "count a", "number a", "order ")

    def test_swap(self):
        self.lines("swap ab ba", "aabbc\n\nab", "bbaac\n\nba\n")
        self.lines("swap ab xx", "abc", "xxc\n")
        self.lines(["swap", " ", "_"], "a b", "a_b\n")
        self.lines(["swap", "a", "\n"], "bab\n", "b\nb\n")
        self.lines(["swap", "\n", "x"], "a\nb", "a\nb\n")
        self.lines("swap aA Aa", "aA\n", "Aa\n")
        self.wrong("swap", "swap a", "swap a b c", "swap aa bc", "swap ab c", "swap a bc", ["swap", "", ""], ["swap", "", "a"])

    def test_part(self):
        text = "a:b:c\nd\n\n:e\n"
        self.lines("part 1 :", text, "a\nd\n\n\n")
        self.lines("part 2 :", text, "b\n\n\ne\n")
        self.lines("part 3 :", text, "c\n\n\n\n")
        self.lines("part 999999999 :", "a", "\n")
        self.lines(["part", "2", " "], "a b c", "b\n")
        self.lines(["part", "1", "\n"], "a b", "a b\n")
        self.lines("part 1 :", "", "")
        self.wrong("part", "part 1", "part 0 :", "part -1 :", "part 01 :", "part x :", "part 1 ::", ["part", "1", ""], "part 1 : :", "part 1000000000 :")

    def test_tee(self):
        self.check("tee n", "x\ny", text="x\ny", rest="", files={**FILES, "/n": "x\ny"})
        self.check("tee a", "z\n", text="z\n", rest="", files={**FILES, "/a": "z\n"})
        self.check("tee a", "", text="", files={**FILES, "/a": ""})
        for path in ("d", "z/n", "a/n", "/", "", ".."):
            self.check(["tee", path], "z\n", path + ": no\n", 1, "z\n", "")
        self.wrong("tee", "tee a b")

    def test_make(self):
        self.check("make n", files={**FILES, "/n": None}, text="in")
        self.check("make n n/m n/m/o", files={**FILES, "/n": None, "/n/m": None, "/n/m/o": None})
        self.check("make d n a n z/y", "", "d: no\na: no\nn: no\nz/y: no\n", 1, files={**FILES, "/n": None}, text="in")
        self.check(["make", ""], "", ": no\n", 1)
        self.check("make ../n", files={**FILES, "/n": None}, folder="/d")
        self.wrong("make")

    def test_remove(self):
        some = {path: FILES[path] for path in ("/d", "/d/e", "/d/f", "/d/f/g")}
        self.check("remove a", files=some, text="in")
        self.check("remove d", files={"/a": "1\n"})
        self.check("remove d/f d", files={"/a": "1\n"})
        self.check("remove d d/f /", "", "d/f: no\n/: no\n", 1, files={"/a": "1\n"})
        self.check("remove /d a", files={}, folder="/d/f", to_folder="/")
        self.check("remove ../f /a e", files={"/d": None}, folder="/d/f", to_folder="/d")
        self.check("remove . g", "", "g: no\n", 1, files={path: FILES[path] for path in ("/a", "/d", "/d/e")}, folder="/d/f", to_folder="/d")
        self.wrong("remove")

    def test_move(self):
        self.check("move a b", files={**{path: FILES[path] for path in FILES if path != "/a"}, "/b": "1\n"}, text="in")
        self.check("move d h", files={"/a": "1\n", "/h": None, "/h/e": "x\ny", "/h/f": None, "/h/f/g": "2"})
        self.check("move . ../h", files={**{path: FILES[path] for path in ("/a", "/d", "/d/e")}, "/d/h": None, "/d/h/g": "2"},
                   folder="/d/f", to_folder="/d")
        for fields, wrong in (
                ("z b", "z"), ("z /", "z"), ("z z", "z"), ("/ b", "/"), ("a d", "d"), ("a d/e", "d/e"), ("a ./a", "./a"), ("a a", "a"),
                ("d d/n", "d/n"), ("d d/f/n", "d/f/n"), ("a z/n", "z/n"), ("a a/n", "a/n"), ("a d/e/n", "d/e/n"), ("a /", "/"), ("d d", "d")):
            self.check("move " + fields, "", wrong + ": no\n", 1, text="in")
            if fields not in ("a d/e", "a a", "a ./a"):
                self.check("copy " + fields, "", wrong + ": no\n", 1, text="in")
        self.wrong("move", "move a", "move a b c")

    def test_copy(self):
        self.check("copy a b", files={**FILES, "/b": "1\n"}, text="in")
        self.check("copy a d/e", files={**FILES, "/d/e": "1\n"})
        self.check("copy a a")
        self.check("copy a d/../a")
        self.check("copy d/f d/h", files={**FILES, "/d/h": None, "/d/h/g": "2"})
        self.check("copy d h", files={**FILES, "/h": None, "/h/e": "x\ny", "/h/f": None, "/h/f/g": "2"})
        for fields, wrong in (("d/f d", "d"), ("d/f a", "a"), ("a d", "d"), ("d d/f/h", "d/f/h")):
            self.check("copy " + fields, "", wrong + ": no\n", 1)
        self.wrong("copy", "copy a", "copy a b c")

    def test_list(self):
        self.check("list", "a\nd\n", text="in")
        self.check("list", "e\nf\n", folder="/d")
        self.check("list d/f", "g\n")
        self.check("list /", "a\nd\n", folder="/d")
        self.check(["list", ""], "e\nf\n", folder="/d")
        for path in ("a", "z", "d/e/x"):
            self.check("list " + path, "", path + ": no\n", 1, text="in")
        self.wrong("list a b")
        self.assertEqual(tool(["list"], world({"/n": None}, "/n"), "")[1:4], ("", "", 0))

    def test_refusals(self):
        for wrong in WRONG_WORLDS:
            for fields in (["cat"], ["nix"], []):
                with self.assertRaises(InvalidWorld) as caught:
                    tool(fields, wrong, "")
                self.assertEqual(caught.exception.value, wrong)
                self.assertEqual(set(lists_in(caught.exception.value)) & set(lists_in(wrong)), set())
        for fields in ([], ["nix"], ["echo", "a"], [""], ["cat "]):
            with self.assertRaises(UnknownTool) as caught:
                tool(fields=fields, world=world(), text="")
            self.assertEqual(caught.exception.value, fields)
            self.assertIsNot(caught.exception.value, fields)

    def test_what_is_not_read_is_left(self):
        told = world()
        for fields in (["first", "1"], ["first", "0"], ["first", "x"], ["cat", "a"], ["make", "n"], ["list"], ["keep"]):
            behind = tool(fields, told, "p\nq\n")
            self.assertEqual(behind[4], "q\n" if fields == ["first", "1"] else "p\nq\n")


if __name__ == "__main__":
    unittest.main()
