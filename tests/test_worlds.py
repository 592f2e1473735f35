"""The functions of worlds.py."""

import copy
import itertools
import unittest

from quotedback.errors import InvalidPath, InvalidWorld, ShellError
from quotedback.expansions import fields
from quotedback.readings import read_word
from quotedback.worlds import (
    below, deeds_between, done, is_world, moved, path_of, room_of, undone, with_file, without,
)
from tests.building import A, WRONG, lists_in

FILES = {"/a": "1\n", "/d": None, "/d/e": "", "/d/f": None, "/d/f/g": "2", "/d.x": "3"}
GROUP = ("group", [A], [])


def world(files=None, folder="/", names=(), arguments=(), title="me", status=0, functions=()):
    return (dict(FILES if files is None else files), folder, dict(names), list(arguments), title, status, dict(functions))


WRONG_WORLDS = [
    world({"a": "1"}), world({"ab": "1"}), world({"a/b": "1"}), world({"": "1"}), world({"/": None}), world({"/a/": "1"}), world({"//a": "1"}), world({"/a//b": "", "/a": None}),
    world({"/.": "1"}), world({"/..": None}), world({"/a": None, "/a/.": "1"}), world({"/a/b": "1"}), world({"/a": "", "/a/b": "1"}),
    world({"/a": None, "/a/b/c": ""}), world(folder="/z"), world(folder="/a"), world(folder=""), world(folder="d"), world(folder="/d/"),
    world(names={"1": "a"}), world(names={"": "a"}), world(names={"a-b": ""}), world(status=-1), world(status=256),
    world(functions={"1": GROUP}), world(functions={"echo": GROUP}), world(functions={"cat": GROUP}), world(functions={"if": GROUP}),
    world(functions={"f": A}), world(functions={"f": ("pipe", [A, A])}), world(functions={"f": ("group", [], [])}),
    world(functions={"f": ("group", [WRONG], [])}), world(functions={"f": GROUP, "g": ("make", "h", GROUP)}),
]


class WorldTest(unittest.TestCase):
    def refuse(self, error, value, call, *parts):
        ahead = copy.deepcopy(parts)
        with self.assertRaises(ShellError) as caught:
            call(*parts)
        self.assertIs(caught.exception.__class__, error)
        self.assertEqual(caught.exception.value, value)
        self.assertEqual(parts, ahead)

    def test_is_world(self):
        for one in (world(), world({}), world(folder="/d/f"), world(names={"x": "", "_1": "a"}, arguments=["", "b"], status=255),
                    world(functions={"f": GROUP, "x": ("case", [("bare", "a")], [], [])}), world({"/..a": "", "/...": None})):
            self.assertIs(is_world(one), True)
        for one in WRONG_WORLDS + [world()[:6], world() + ({},), ()]:
            self.assertIs(is_world(world=one), False, one)

    def test_wrong_worlds(self):
        good = world()
        for wrong in WRONG_WORLDS:
            for call, parts in ((path_of, (wrong, "a")), (room_of, (wrong,)), (below, (wrong, "z")), (with_file, (wrong, "z", "")),
                                (without, (wrong, "z")), (moved, (wrong, "z", "y")), (deeds_between, (wrong, WRONG_WORLDS[0])),
                                (deeds_between, (good, wrong)), (done, (wrong, [("lost", "z")])), (undone, (wrong, [("lost", "z")]))):
                self.refuse(InvalidWorld, wrong, call, *parts)
        with self.assertRaises(InvalidWorld) as caught:
            room_of(WRONG_WORLDS[-1])
        self.assertEqual(set(lists_in(caught.exception.value)) & set(lists_in(WRONG_WORLDS[-1])), set())

    def test_path_of(self):
        for folder, text, path in (
                ("/d/f", "a", "/d/f/a"), ("/d/f", "", "/d/f"), ("/d/f", ".", "/d/f"), ("/d/f", "..", "/d"), ("/d/f", "../..", "/"),
                ("/d/f", "../../../a", "/a"), ("/d/f", "/a", "/a"), ("/d/f", "/", "/"), ("/d/f", "//a//b/", "/a/b"),
                ("/d/f", "a/./b/../c", "/d/f/a/c"), ("/d/f", "./../x", "/d/x"), ("/", "a", "/a"), ("/", "", "/"), ("/", "..", "/"),
                ("/", "../a/", "/a"), ("/d", "/..", "/"), ("/d", "/../a/..", "/"), ("/d", "...", "/d/..."), ("/d", ".a", "/d/.a"),
                ("/d", " ", "/d/ "), ("/d", "\n", "/d/\n")):
            self.assertEqual(path_of(world=world(folder=folder), text=text), path, (folder, text))

    def test_room_of(self):
        one = world(names={"x": "1"}, arguments=["a"], title="t", status=7)
        self.assertEqual(room_of(world=one), ({"x": "1"}, ["a"], "t", 7, [
            "/a", "/d", "/d.x", "/d/e", "/d/f", "/d/f/g", "a", "d", "d.x", "d/e", "d/f", "d/f/g"]))
        self.assertEqual(room_of(world(folder="/d"))[4], ["/a", "/d", "/d.x", "/d/e", "/d/f", "/d/f/g", "e", "f", "f/g"])
        self.assertEqual(room_of(world(folder="/d/f"))[4], ["/a", "/d", "/d.x", "/d/e", "/d/f", "/d/f/g", "g"])
        self.assertEqual(room_of(world({}))[4], [])
        self.assertEqual(fields(read_word("*/?"), room_of(world()), []), ["/a", "/d", "d/e", "d/f"])

    def test_below(self):
        self.assertEqual(below(world=world(), path="/"), ["a", "d", "d.x"])
        self.assertEqual(below(world(), "/d"), ["e", "f"])
        self.assertEqual(below(world(folder="/d"), "/d/f"), ["g"])
        self.assertEqual(below(world({"/a": None}), "/a"), [])
        self.assertEqual(below(world({}), "/"), [])
        for path in ("", "d", "/d/", "//", "/z", "/a", "/d/e", "/d/.", "/d/..", "/a/b"):
            self.refuse(InvalidPath, path, below, world(), path)

    def test_with_file(self):
        self.assertEqual(with_file(world(), "/n", "x"), world({**FILES, "/n": "x"}))
        self.assertEqual(with_file(world=world(), path="/a", text=""), world({**FILES, "/a": ""}))
        self.assertEqual(with_file(world(), "/d/f/h", None), world({**FILES, "/d/f/h": None}))
        self.assertEqual(with_file(world(folder="/d/f"), "/n", None)[1], "/d/f")
        for path in ("", "/", "n", "nm", "/n/", "/d/..", "/z/n", "/a/n", "/d/e/n", "/d", "/d/f"):
            self.refuse(InvalidPath, path, with_file, world(), path, "x")
            self.refuse(InvalidPath, path, with_file, world(), path, None)
        for path in ("/a", "/d/e"):
            self.refuse(InvalidPath, path, with_file, world(), path, None)

    def test_without(self):
        self.assertEqual(without(world(), "/a"), world({path: FILES[path] for path in FILES if path != "/a"}))
        self.assertEqual(without(world=world(), path="/d"), world({"/a": "1\n", "/d.x": "3"}))
        for folder, path, left in (("/d/f", "/d/f", "/d"), ("/d/f", "/d", "/"), ("/d", "/d/f", "/d"), ("/d/f", "/d/f/g", "/d/f"),
                                   ("/", "/d", "/"), ("/d", "/d", "/")):
            self.assertEqual(without(world(folder=folder), path)[1], left)
        for path in ("", "/", "a", "/z", "/a/", "/d/z", "/a/b"):
            self.refuse(InvalidPath, path, without, world(), path)

    def test_moved(self):
        self.assertEqual(moved(world(), "/a", "/d/b")[0], {**{path: FILES[path] for path in FILES if path != "/a"}, "/d/b": "1\n"})
        self.assertEqual(moved(world=world(), path="/d", other="/h")[0],
                         {"/a": "1\n", "/d.x": "3", "/h": None, "/h/e": "", "/h/f": None, "/h/f/g": "2"})
        self.assertEqual(moved(world(), "/d/f", "/d.y")[0],
                         {"/a": "1\n", "/d": None, "/d/e": "", "/d.x": "3", "/d.y": None, "/d.y/g": "2"})
        self.assertEqual(moved(world(folder="/d/f"), "/d", "/h")[1], "/")
        self.assertEqual(moved(world(folder="/d/f"), "/d/f", "/h")[1], "/d")
        self.assertEqual(moved(world(folder="/d/f"), "/a", "/d/f/a")[1], "/d/f")
        for path, other, value in (
                ("a", "b", "a"), ("/", "b", "/"), ("/z", "b", "b"), ("/z", "/", "/"), ("/z", "/y/", "/y/"), ("/z", "/a", "/z"),
                ("/z", "/z", "/z"), ("/a", "/d", "/d"), ("/a", "/a", "/a"), ("/d", "/d/n", "/d/n"), ("/d", "/d/f/n", "/d/f/n"),
                ("/d", "/d/e/n", "/d/e/n"), ("/a", "/a/n", "/a/n"), ("/d", "/z/n", "/z/n"), ("/d", "/a/n", "/a/n"), ("/a", "/d/f", "/d/f")):
            self.refuse(InvalidPath, value, moved, world(), path, other)

    def test_deeds_between(self):
        one = world()
        for files, deeds in (
                (FILES, []), ({}, [("lost", "/a"), ("lost", "/d"), ("lost", "/d.x")]),
                ({**FILES, "/a": "2"}, [("file", "/a", "2")]), ({**FILES, "/a": None}, [("lost", "/a"), ("folder", "/a")]),
                ({"/a": "1\n", "/d": "", "/d.x": "3"}, [("lost", "/d"), ("file", "/d", "")]),
                ({**FILES, "/n": None, "/n/m": "x", "/b": ""}, [("file", "/b", ""), ("folder", "/n"), ("file", "/n/m", "x")]),
                ({"/a": "1\n", "/d": None, "/d/f": "", "/d/e": None, "/d.x": "3"},
                 [("lost", "/d/e"), ("lost", "/d/f"), ("folder", "/d/e"), ("file", "/d/f", "")])):
            other = world(files, status=9)
            self.assertEqual(deeds_between(one=one, other=other), deeds)
            self.assertEqual(done(one, deeds)[0], files)
            self.assertEqual(undone(one, deeds), deeds_between(other, one))
        self.assertEqual(deeds_between(world({}), one), [
            ("file", "/a", "1\n"), ("folder", "/d"), ("file", "/d.x", "3"), ("file", "/d/e", ""), ("folder", "/d/f"),
            ("file", "/d/f/g", "2")])
        self.assertEqual(deeds_between(world(folder="/d"), world(names={"x": "1"}, status=3)), [])

    def test_deeds_lead_there_and_back(self):
        some = [{}, {"/a": ""}, {"/a": None}, {"/a": None, "/a/b": "1"}, {"/a": None, "/a/b": None, "/a/b/c": ""}, {"/a": "", "/b": "2"},
                {"/a": None, "/a/b": "2", "/a/c": None}, {"/b": None, "/b/a": ""}, FILES]
        for one, other in itertools.product(some, some):
            deeds = deeds_between(world(one), world(other))
            self.assertEqual(done(world(one), deeds), world(other))
            back = undone(world(one), deeds)
            self.assertEqual(back, deeds_between(world(other), world(one)))
            self.assertEqual(done(world(other), back), world(one))

    def test_done(self):
        self.assertEqual(done(world(), []), world())
        self.assertEqual(done(world=world(folder="/d/f"), deeds=[("lost", "/d/f"), ("folder", "/d/f"), ("file", "/d/f/n", "")]),
                         world({"/a": "1\n", "/d": None, "/d/e": "", "/d/f": None, "/d/f/n": "", "/d.x": "3"}, "/d"))
        self.assertEqual(done(world({}), [("folder", "/b"), ("file", "/b/c", "1"), ("file", "/a", "2"), ("file", "/a", "3")])[0],
                         {"/b": None, "/b/c": "1", "/a": "3"})
        self.assertEqual(undone(world=world(), deeds=[]), [])
        self.assertEqual(undone(world(), [("lost", "/a"), ("folder", "/a")]), [("lost", "/a"), ("file", "/a", "1\n")])
        for call in (done, undone):
            self.refuse(InvalidPath, "/z", call, world(), [("lost", "/a"), ("lost", "/z"), ("lost", "/y")])
            self.refuse(InvalidPath, "/a", call, world(), [("lost", "/a"), ("lost", "/a")])
            self.refuse(InvalidPath, "/d/f", call, world(), [("lost", "/d"), ("lost", "/d/f")])
            self.refuse(InvalidPath, "/n/m", call, world(), [("file", "/n/m", ""), ("folder", "/n")])
            self.refuse(InvalidPath, "/a", call, world(), [("folder", "/a")])
            self.refuse(InvalidPath, "/d", call, world(), [("file", "/d", "")])
            self.refuse(InvalidPath, "/d/f", call, world(), [("folder", "/d/f")])
            self.refuse(InvalidPath, "n", call, world(), [("file", "n", "")])
            self.refuse(InvalidPath, "/", call, world(), [("lost", "/")])

    def test_what_is_returned_is_new(self):
        one = world(folder="/d", names={"x": "1"}, arguments=["a"], functions={"f": ("group", [A], [])})
        ahead = copy.deepcopy(one)
        for told in (room_of(one), with_file(one, "/n", ""), without(one, "/a"), moved(one, "/a", "/b"), done(one, []),
                     done(one, [("lost", "/a")]), deeds_between(one, world({})), below(one, "/")):
            self.assertEqual(set(lists_in(told)) & set(lists_in(one)), set())
            self.assertEqual(len(lists_in(told)), len(set(lists_in(told))))
        behind = done(one, [])
        behind[0]["/z"] = ""
        behind[2]["y"] = ""
        behind[3].append("b")
        behind[6]["f"][1].append(A)
        self.assertEqual(one, ahead)
