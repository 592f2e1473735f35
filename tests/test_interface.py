"""The names, and the names of arguments, that the document's interface lists, each in its own file."""

import ast
import importlib
import inspect
import pathlib
import unittest

import quotedback

FOLDER = pathlib.Path(quotedback.__file__).parent
FUNCTIONS = {
    "trees": "is_word(tree) is_script(tree) first_wrong(script) depth(tree) words_of(script) commands_in(script) calls(script)",
    "texts": "show_word(word) show_sum(tree) show_script(script)",
    "readings": "read_word(text) read_sum(text) read_script(text) quote(text) quote_all(texts) is_shown(text) tidied(text)",
    "sums": "worked_out(tree,names,arguments) names_in(tree) is_steady(tree) folded(tree)",
    "patterns": "is_pattern(pattern) pattern_of(signs) meets(pattern,text) heads(pattern,text) tails(pattern,text) least_text(pattern) same(one,other) within(one,other)"
                " first_apart(one,other) common(one,other) never_met(arms) unmet(arms) shown_least(pattern)",
    "expansions": "signs(word,room,answers) fields(word,room,answers) joined(word,room,answers) pattern(word,room,answers) names_behind(word,room,answers) all_fields(words,room,answers)",
    "checks": "field_count(word) is_single(word) splitting(word) quoted_least(word) can_meet_paths(word) same_words(one,other) reads(script) sets(script) same_lists(one,other) list_comes_to(command)",
    "worlds": "is_world(world) path_of(world,text) room_of(world) below(world,path) with_file(world,path,text) without(world,path) moved(world,path,other) deeds_between(one,other)"
              " done(world,deeds) undone(world,deeds)",
    "deeds": "is_deed(name) tested(fields,world) said(fields)",
    "tools": "is_tool(name) tool(fields,world,text)",
    "filters": "is_row(row) filtered(row,text) filter_of(fields) first_parted(one,other) alike(one,other) never_writes(row) source(row,lines) least_row(row) passing(one,other)",
    "nets": "is_net(net) movers(net,moves) behind(net,moves) by_order(net,order) held(net) stands_still(net) waits_for(net) least_room(net) most_lines(net)",
    "runs": "run(script,world,text,limit) pipe_in_turns(commands,world,text,order,limit) last_of(script,world,text,limit) needed(script,world,text,limit) dry(script,world,text,limit)",
    "code": "compiled(script) run_code(code,world,text,limit) shorter(code) folded_words(script) dead_left_out(script) unquoted(script) fused(script) all_passes(script)"
            " same_events(one,other,worlds,limit) status_free(script)",
    "races": "touched(script,folder) is_apart(pipe,folder) race(pipe,world,text,limit)",
}
CLASSES = {
    ("runs", "Walk"): "__init__(self,script,world,text) __len__(self) step(self) is_done(self) events(self) standing(self) out(self) err(self) next_fields(self) copy(self)",
    ("desks", "Desk"): "__init__(self,world) __len__(self) world(self) fork(self) forks(self) enter(self,text) history(self) undo(self) branch(self,name) switch(self,name)"
                       " dry_line(self,text) plan(self,text) complete(self,text)",
}


def defined(body):
    return {node.name: node.name + "(" + ",".join(part.arg for part in node.args.args) + ")" for node in body if isinstance(node, ast.FunctionDef)}


class InterfaceTest(unittest.TestCase):
    def test_functions(self):
        for file, told in FUNCTIONS.items():
            found = defined(ast.parse((FOLDER / (file + ".py")).read_text()).body)
            for one in told.split(" "):
                self.assertEqual(found.get(one.partition("(")[0]), one, file)
                made = getattr(importlib.import_module("quotedback." + file), one.partition("(")[0])
                self.assertEqual(made.__module__, "quotedback." + file)
                self.assertTrue(all(part.default is inspect.Parameter.empty for part in inspect.signature(made).parameters.values()))

    def test_classes(self):
        for (file, title), told in CLASSES.items():
            body = ast.parse((FOLDER / (file + ".py")).read_text()).body
            found = defined([node for node in body if isinstance(node, ast.ClassDef) and node.name == title][0].body)
            for one in told.split(" "):
                self.assertEqual(found.get(one.partition("(")[0]), one, title)
        desk = importlib.import_module("quotedback.desks").Desk
        self.assertIsInstance(desk.world, property)
        self.assertIsInstance(desk.fork, property)


if __name__ == "__main__":
    unittest.main()
