"""[3], [16] and nets.py: the moves of cells, where nets stand still, and what holds for all orders of moves."""

import copy
import itertools
import random
import unittest

from quotedback.errors import InvalidMove, InvalidNet, InvalidOrder
from quotedback.filters import filtered
from quotedback.nets import behind, by_order, held, is_net, least_room, most_lines, movers, stands_still, waits_for
from tests.building import lists_in

A, LOT = ("one", "a"), ("lot",)
KEEP_ALL = ("keep all",)


def line(*inner, lines=("a", "b", "ab"), room=1):
    """A net of filters one behind the other."""
    cells = [("take", list(lines))] + list(inner) + [KEEP_ALL]
    return (cells, [(at, at + 1) for at in range(len(cells) - 1)], room)


# A fork whose first way holds a line back, that a zip wants, until another one comes.
RING = ([("take", ["a", "b", "c", "d"]), ("fork",), ("keep", [("one", "d")]), ("zip", "-"), KEEP_ALL], [(0, 1), (1, 2), (1, 3), (2, 3), (3, 4)], 1)
TWO_WAYS = ([("take", ["a", "b", "c"]), ("fork",), ("number",), ("zip", ":"), KEEP_ALL], [(0, 1), (1, 2), (1, 3), (2, 3), (3, 4)], 1)
WRONG_NETS = [
    ([("take", [])], [], 1), ([KEEP_ALL], [], 1), ([("take", ["a\n"]), KEEP_ALL], [(0, 1)], 1), ([("take", []), KEEP_ALL], [(0, 1)], 0),
    ([("take", []), KEEP_ALL], [(0, 1)], -1), ([("take", []), KEEP_ALL], [(1, 0)], 1), ([("take", []), KEEP_ALL], [(0, 2)], 1),
    ([("take", []), KEEP_ALL], [(0, -1)], 1), ([("take", []), KEEP_ALL], [(0, 1), (0, 1)], 1), ([], [(0, 0)], 1), ([("take", []), ("order",), KEEP_ALL], [(0, 1), (1, 2)], 1),
    ([("take", []), ("last", 1), KEEP_ALL], [(0, 1), (1, 2)], 1), ([("take", []), ("count",), KEEP_ALL], [(0, 1), (1, 2)], 1), ([("take", []), ("nix",), KEEP_ALL], [(0, 1), (1, 2)], 1),
    ([("take", []), ("first", -1), KEEP_ALL], [(0, 1), (1, 2)], 1), ([("take", []), ("swap", []), KEEP_ALL], [(0, 1), (1, 2)], 1),
    ([("take", []), ("keep", [("one", "")]), KEEP_ALL], [(0, 1), (1, 2)], 1), ([("take", []), ("once", 1), KEEP_ALL], [(0, 1), (1, 2)], 1),
    ([("take", []), ("fork",), KEEP_ALL], [(0, 1), (1, 2)], 1), ([("take", []), ("turn",), KEEP_ALL], [(0, 1), (1, 2)], 1), ([("take",), KEEP_ALL], [(0, 1)], 1),
    ([("take", []), ("take", []), ("zip", ""), KEEP_ALL], [(0, 2), (1, 2), (2, 3)], 1), ([("take", []), ("take", []), ("zip", "\n"), KEEP_ALL], [(0, 2), (1, 2), (2, 3)], 1),
    ([("take", []), ("take", []), ("zip", "ab"), KEEP_ALL], [(0, 2), (1, 2), (2, 3)], 1), ([("once",)], [(0, 0)], 1), ([("once",), ("once",)], [(0, 1), (1, 0)], 1),
    ([("take", []), ("turn",), ("fork",), KEEP_ALL], [(0, 1), (1, 2), (2, 1), (2, 3)], 1), ([("take", []), KEEP_ALL, ("once",)], [(0, 1), (2, 2)], 1), ([()], [], 1),
    ([("take", [LOT]), KEEP_ALL], [(0, 1)], 1), ([("take", "ab"), KEEP_ALL], [(0, 1)], 1), ([("take", 1), KEEP_ALL], [(0, 1)], 1),
    ([("take", []), ("first", "1"), KEEP_ALL], [(0, 1), (1, 2)], 1), ([("take", []), KEEP_ALL], [(0, 1, 1)], 1), ([("take", []), KEEP_ALL], [(0,)], 1),
    ([("take", []), ("take", []), ("zip", 1), KEEP_ALL], [(0, 2), (1, 2), (2, 3)], 1), ([], []), ([], [], 1, 1),
]


class NetsTest(unittest.TestCase):
    def test_is_net(self):
        for net in (([], [], 1), line(), line(("once",), ("first", 0), room=7), RING, TWO_WAYS, ([KEEP_ALL, ("take", [""])], [(1, 0)], 1),
                    ([("take", []), ("fork",), ("turn",), KEEP_ALL], [(0, 1), (1, 2), (1, 2), (2, 3)], 1),
                    ([("take", []), ("keep", []), ("drop", [LOT]), ("swap", [("a", "b")]), ("number",), KEEP_ALL], [(at, at + 1) for at in range(5)], 2)):
            self.assertIs(is_net(net=net), True, net)
        for net in WRONG_NETS:
            self.assertIs(is_net(net), False, net)

    def test_moves_of_lines(self):
        net = line(("keep", [A]), lines=["a", "b"], room=1)
        self.assertEqual(movers(net=net, moves=[]), [0])
        self.assertEqual(behind(net=net, moves=[]), ([[], []], [[]]))
        moves = []
        for cell, on, kept, ready in (
                (0, [["a"], []], [], [1]), (1, [[], []], [], [0, 1]), (0, [["b"], []], [], [0, 1]), (1, [["b"], ["a"]], [], [0, 1, 2]), (1, [[], ["a"]], [], [0, 2]),
                (2, [[], []], ["a"], [0]), (0, [[], []], ["a"], [1]), (1, [[], []], ["a"], [2]), (2, [[], []], ["a"], [])):
            moves.append(cell)
            self.assertEqual(behind(net, moves), (on, [kept]))
            self.assertEqual(movers(net, moves), ready, moves)

    def test_room(self):
        for room in (1, 2, 3):
            net = line(lines=["a"] * 4, room=room)
            self.assertEqual(movers(net, [0] * room), [1])
            self.assertEqual(movers(net, [0] * room + [1]), [0, 1] if room > 1 else [0])
            self.assertEqual(behind(net, [0] * room), ([["a"] * room], [[]]))

    def test_lines_as_nets(self):
        lines = ["a", "b", "", "ab", "ab", "b"]
        for inner in (("keep", [A, LOT]), ("drop", [A, LOT]), ("swap", [("a", "b"), ("b", "a")]), ("first", 0), ("first", 2), ("first", 9), ("once",), ("number",)):
            for other in (("once",), ("first", 1), ("number",)):
                net = line(inner, other, lines=lines)
                wanted = filtered([inner, other], "".join(one + "\n" for one in lines)).split("\n")[:-1]
                self.assertEqual(held(net), [wanted], net)
                self.assertEqual(stands_still(net), [])
                self.assertIsNone(waits_for(net))

    def test_fork_turn_and_zip(self):
        self.assertEqual(held(TWO_WAYS), [["a:1 a", "b:2 b", "c:3 c"]])
        def two(cell, one, other, room=1):
            return ([("take", one), ("take", other), cell, KEEP_ALL], [(0, 2), (1, 2), (2, 3)], room)
        self.assertEqual(held(two(("turn",), ["a", "b", "c"], ["1"])), [["a", "1", "b", "c"]])
        self.assertEqual(held(two(("turn",), [], ["1", "2"])), [["1", "2"]])
        self.assertEqual(held(two(("turn",), ["a"], ["1", "2", "3"])), [["a", "1", "2", "3"]])
        self.assertEqual(held(two(("turn",), [], [])), [[]])
        self.assertEqual(held(two(("zip", "-"), ["a", "b"], ["1", "2"])), [["a-1", "b-2"]])
        self.assertEqual(held(two(("zip", "-"), ["a", "b", "c"], ["1"])), [["a-1"]])
        self.assertEqual(held(two(("zip", " "), ["a"], ["1", "2"])), [["a 1"]])
        self.assertEqual(held(([("take", ["a"]), ("take", ["1"]), ("zip", "-"), KEEP_ALL], [(1, 2), (0, 2), (2, 3)], 1)), [["1-a"]])
        fork = ([("take", ["a", "b"]), ("fork",), KEEP_ALL, KEEP_ALL], [(0, 1), (1, 3), (1, 2)], 1)
        self.assertEqual(held(fork), [["a", "b"], ["a", "b"]])
        self.assertEqual(behind(fork, [0, 1, 1])[0], [[], ["a"], []])
        self.assertEqual(movers(fork, [0, 1, 1]), [0, 1, 3])
        # A zip drops the line that it holds when the other road is at its end.
        net = two(("zip", "-"), ["a", "b"], ["1"])
        self.assertEqual(behind(net, [0, 2, 1, 2, 2, 3, 0, 2, 1, 2, 3])[1], [["a-1"]])
        self.assertEqual(movers(net, [0, 2, 1, 2, 2, 3, 0, 2, 1]), [0, 2])

    def test_first_and_lines_that_are_lost(self):
        net = line(("first", 1), lines=["a", "b", "c", "d"], room=1)
        self.assertEqual(movers(net, [0, 1, 0, 1]), [1, 2])
        self.assertEqual(behind(net, [0, 1, 0, 1, 1]), ([["b"], ["a"]], [[]]))
        self.assertEqual(behind(net, [0, 1, 0, 1, 1, 0, 0]), ([["b"], ["a"]], [[]]))
        self.assertEqual(behind(net, [0, 1, 1, 1, 0, 0, 0]), ([[], ["a"]], [[]]))
        self.assertEqual(held(net), [["a"]])
        self.assertEqual(held(line(("first", 0))), [[]])
        self.assertEqual(movers(line(("first", 0)), []), [0, 1])
        self.assertEqual(stands_still(net), [])

    def test_standing_still(self):
        self.assertEqual(held(RING), [None])
        self.assertEqual(stands_still(net=RING), [1, 2, 3, 4])
        self.assertEqual(waits_for(net=RING), [1, 3, 2])
        self.assertEqual(least_room(net=RING), 2)
        self.assertEqual(held((RING[0], RING[1], 2)), [["a-d"]])
        long = ([("take", [str(at) for at in range(12)]), ("fork",), ("keep", [LOT, ("one", "1"), ("one", "1")]), ("zip", "-"), KEEP_ALL], RING[1], 1)
        self.assertEqual(least_room(long), 10)
        self.assertEqual(least_room((long[0], long[1], 4)), 10)
        takes = ([("take", ["x"] * 30), ("fork",), ("keep", [A]), ("zip", "-"), KEEP_ALL], RING[1], 1)
        self.assertIsNone(least_room(takes))
        self.assertEqual(least_room(([("take", ["x"] * 21 + ["a"]), ("fork",), ("keep", [A]), ("zip", "-"), KEEP_ALL], RING[1], 1)), 20)
        self.assertIsNone(least_room(([("take", ["x"] * 22 + ["a"]), ("fork",), ("keep", [A]), ("zip", "-"), KEEP_ALL], RING[1], 1)))
        both = ([KEEP_ALL] + RING[0][:4] + [KEEP_ALL, ("take", ["q"])], [(6, 0)] + [(one + 1, other + 1) for one, other in RING[1]], 1)
        self.assertEqual(held(both), [["q"], None])
        self.assertEqual(waits_for(both), [2, 4, 3])

    def test_orders(self):
        for net in (RING, TWO_WAYS, line(("first", 1), ("number",), room=2)):
            wanted = held(net)
            for order in itertools.permutations(range(len(net[0]))):
                self.assertEqual(by_order(net=net, order=list(order)), wanted)
        self.assertEqual(by_order(([], [], 1), []), [])

    def test_most_lines(self):
        self.assertEqual(most_lines(net=RING), [1, 1, 1, 0, 0])
        self.assertEqual(most_lines((RING[0], RING[1], 4)), [4, 4, 4, 1, 1])
        self.assertEqual(most_lines(line(lines=["a"] * 3, room=4)), [3])
        self.assertEqual(most_lines(line(("first", 1), lines=["a"] * 3, room=2)), [2, 1])
        self.assertEqual(most_lines(line(("first", 1), lines=["a"] * 3, room=1)), [1, 1])
        self.assertEqual(most_lines(line(("keep", [("one", "z")]), room=2)), [2, 0])
        self.assertEqual(most_lines(([], [], 1)), [])

    def test_all_orders_of_moves(self):
        nets = [self.grown(seed) for seed in range(150)]
        nets = [net for net in nets if net is not None] + [RING, TWO_WAYS, line(("first", 1), lines=["a", "b"], room=2)]
        self.assertGreater(len(nets), 40)
        looked = 0
        for net in nets:
            self.assertTrue(is_net(net))
            chance = random.Random(1)
            most = [0 for _ in net[1]]
            ends = []
            for _ in range(6):
                moves, ready = [], movers(net, [])
                while ready != []:
                    # Some cells are lazy for a whole run, so that roads fill.
                    lazy = chance.random() < 0.7
                    moves.append(ready[0 if lazy and chance.random() < 0.5 else -1] if lazy else chance.choice(ready))
                    ready = movers(net, moves)
                    on, _ = behind(net, moves)
                    most = [max(many, len(lines)) for many, lines in zip(most, on)]
                ends.append((behind(net, moves)[1], sorted(moves)))
                self.assertEqual([moves.count(cell) for cell in range(len(net[0]))], [ends[0][1].count(cell) for cell in range(len(net[0]))])
            self.assertTrue(all(end == ends[0] for end in ends))
            self.assertTrue(all(many <= told for many, told in zip(most, most_lines(net))), net)
            looked += 1
            ring = waits_for(net)
            self.assertEqual(ring is None, stands_still(net) == [])
            room = least_room(net)
            self.assertEqual(stands_still((net[0], net[1], room)) if room is not None else [], [])
            if room is not None and room > 1:
                self.assertNotEqual(stands_still((net[0], net[1], room - 1)), [])
        self.assertGreater(looked, 40)

    def grown(self, seed):
        chance = random.Random(seed)
        cells = [("take", [chance.choice(["a", "b", "ab"]) for _ in range(chance.randint(0, 3))]) for _ in range(chance.randint(1, 2))]
        roads, loose = [], list(range(len(cells)))
        while loose and len(cells) < 8:
            chance.shuffle(loose)
            kind = chance.choice(["filter", "fork", "two", "two", "end"])
            at = len(cells)
            if kind == "two" and len(loose) > 1:
                cells.append(chance.choice([("turn",), ("zip", "-")]))
                roads += [(loose.pop(), at), (loose.pop(), at)]
                loose.append(at)
            elif kind == "filter":
                cells.append(chance.choice([("keep", [A]), ("drop", [A]), ("first", 1), ("once",), ("number",), ("swap", [("a", "b")])]))
                roads.append((loose.pop(), at))
                loose.append(at)
            elif kind == "fork":
                cells.append(("fork",))
                roads.append((loose.pop(), at))
                loose += [at, at]
            elif kind == "end":
                cells.append(KEEP_ALL)
                roads.append((loose.pop(), at))
        return None if loose else (cells, roads, chance.randint(1, 2))

    def test_errors(self):
        for net in WRONG_NETS:
            for call in (held, stands_still, waits_for, least_room, most_lines, lambda told: movers(told, [9]), lambda told: behind(told, [9]), lambda told: by_order(told, [9])):
                ahead = copy.deepcopy(net)
                with self.assertRaises(InvalidNet) as caught:
                    call(net)
                self.assertEqual(caught.exception.value, net)
                self.assertEqual(set(lists_in(caught.exception.value)) & set(lists_in(net)), set())
                self.assertEqual(net, ahead)
        net = line()
        for moves, wrong in (([1], 1), ([-1], -1), ([2], 2), ([0, 0], 0), ([0, 1, 5, 9], 5), ([0, 1, 1], 1)):
            for call in (movers, behind):
                with self.assertRaises(InvalidMove) as caught:
                    call(net, moves)
                self.assertEqual(caught.exception.value, wrong)
        for order in ([], [0], [0, 0], [0, 1, 1], [1, 2], [0, 1, 2], [-1, 0]):
            with self.assertRaises(InvalidOrder) as caught:
                by_order(net, order)
            self.assertEqual(caught.exception.value, order)
            self.assertIsNot(caught.exception.value, order)

    def test_what_is_passed_stays_and_what_is_returned_is_new(self):
        net, moves, order = copy.deepcopy(TWO_WAYS), [0, 1, 0], [0, 1, 2, 3, 4]
        ahead = copy.deepcopy((net, moves, order))
        told = (movers(net, moves), behind(net, moves), by_order(net, order), held(net), stands_still(net), most_lines(net))
        self.assertEqual((net, moves, order), ahead)
        self.assertEqual(set(lists_in(told)) & set(lists_in((net, moves, order))), set())
        self.assertEqual(len(lists_in(told)), len(set(lists_in(told))))


if __name__ == "__main__":
    unittest.main()
