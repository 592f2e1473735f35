"""[16]: a run is the same row of events by whichever way it is worked out, of scripts that are grown by chance."""

import unittest

from quotedback.code import all_passes, compiled, dead_left_out, folded_words, fused, run_code, same_events, shorter, status_free, unquoted
from quotedback.errors import TooLong
from quotedback.readings import read_script
from quotedback.runs import Walk, run
from quotedback.texts import show_script
from quotedback.trees import is_script
from quotedback.worlds import is_world
from tests.building import bare
from tests.growing_runs import RunGrower
from tests.plain_shell import plain_run

LIMIT = 120


class PassGrower(RunGrower):
    """Grows scripts with more of what passes do something with."""

    def filter(self):
        pattern = self.pick([[("held", "a*")], [("held", "*b")], [("wide", [("plain", "?")])], bare("a"), [("held", "*")], [("held", "[ab]*")], bare("a*")])
        number = bare(self.pick("0123"))
        words = self.pick([[bare("keep"), pattern], [bare("drop"), pattern], [bare("first"), number], [bare("swap"), bare("ab"), bare("ba")], [bare("order")]])
        return ("do", [], words, [])

    def turned(self, deep):
        if self.chance(0.15):
            filters = [self.filter() if self.chance(0.8) else ("group", [self.filter()], []) for _ in range(self.random.randint(1, 4))]
            return ("pipe", [self.piped(0)] + filters + [self.piped(0)])
        return RunGrower.turned(self, deep)

    def full(self, deep):
        if self.chance(0.15):
            return [("do", [], [bare(self.pick(["true", "false", ":"]))], [])]
        return RunGrower.full(self, deep)


def grown(kind, seeds):
    """Yields the tuples (grower, script, world, text) that are right."""
    for seed in seeds:
        grower = kind(seed)
        world = grower.world()
        script = [grower.command(3) for _ in range(grower.random.randint(1, 4))]
        if is_script(script) and is_world(world):
            yield grower, script, world, grower.text()


def result(call, *parts):
    try:
        return call(*parts)
    except TooLong as error:
        return ("too long", error.value)


class GrownRunsTest(unittest.TestCase):
    def test_runs_walks_and_code(self):
        ended = 0
        for grower, script, world, text in grown(RunGrower, range(500)):
            wanted = plain_run(script, world, text, LIMIT) or ("too long", LIMIT)
            shown = show_script(script)
            self.assertEqual(result(run, script, world, text, LIMIT), wanted, shown)
            self.assertEqual(result(run, read_script(shown), world, text, LIMIT), wanted, shown)
            code = compiled(script)
            less = shorter(code)
            self.assertLessEqual(len(less), len(code))
            self.assertEqual(shorter(less), less)
            self.assertEqual(result(run_code, code, world, text, LIMIT), wanted, shown)
            self.assertEqual(result(run_code, less, world, text, LIMIT), wanted, shown)
            if wanted != ("too long", LIMIT):
                ended += 1
                self.check_walk(grower, script, world, text, wanted)
        self.assertGreater(ended, 300)

    def check_walk(self, grower, script, world, text, wanted):
        walk = Walk(script, world, text)
        twins = []
        while not walk.is_done():
            fields = walk.next_fields()
            if grower.chance(0.1):
                twins.append(walk.copy())
            walk.step()
            self.assertTrue(is_world(walk.standing()))
            if fields is not None:
                # The event may have come long ahead already, if a script was done for a set behind it.
                self.assertIn(("do", fields), walk.events())
        for one in [walk] + twins:
            while not one.is_done():
                one.step()
            self.assertEqual((one.standing(), one.out(), one.err(), one.events()), wanted)
            self.assertEqual(len(one), len(walk))
        run(script, world, text, len(walk))
        if len(walk) > 0:
            with self.assertRaises(TooLong):
                run(script, world, text, len(walk) - 1)

    def test_passes(self):
        done = {}
        for grower, script, world, text in grown(PassGrower, range(1000, 1250)):
            for one in (folded_words, dead_left_out, unquoted, fused, all_passes):
                behind, places = one(script)
                self.assertTrue(is_script(behind))
                self.assertEqual(places != [], behind != script)
                self.assertEqual(read_script(show_script(behind)), behind)
                if one is not all_passes:
                    self.assertEqual(places, sorted(places))
                    self.assertEqual(len(places), len({tuple(place) for place in places}))
                if places != [] and result(same_events, script, behind, [(world, text)], 200) is None:
                    done[one.__name__] = done.get(one.__name__, 0) + 1
                elif places != []:
                    self.assertEqual(result(same_events, script, behind, [(world, text)], 200), ("too long", 200), show_script(script))
            self.assertEqual(all_passes(all_passes(script)[0])[1], [])
        self.assertGreater(min(done.values()), 20)
        self.assertEqual(len(done), 5)

    def test_scripts_that_are_free_of_the_status(self):
        free = 0
        for _, script, world, text in grown(RunGrower, range(2000, 2400)):
            if status_free(script):
                runs = [result(run, script, world[:5] + (status,) + world[6:], text, LIMIT) for status in (0, 1, 77)]
                # The world behind an empty run is the one ahead of it, but for the status.
                self.assertEqual(len({repr(one[3:]) for one in runs}), 1, show_script(script))
                free += 1
        self.assertGreater(free, 40)


if __name__ == "__main__":
    unittest.main()
