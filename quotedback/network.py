"""A net at work, move by move."""

from quotedback.cells import Cell


class NetAtWork:
    """The cells and roads of a net as they stand.

    `on` has the lines on each road; `roads_in` and `roads_out` the indexes of the roads of each cell.
    """

    def __init__(self, net, room):
        cells, roads, _ = net
        self.cells = [Cell(told) for told in cells]
        self.ends = roads
        self.room = room
        self.on = [[] for _ in roads]
        self.roads_in = [[at for at, road in enumerate(roads) if road[1] == cell] for cell in range(len(cells))]
        self.roads_out = [[at for at, road in enumerate(roads) if road[0] == cell] for cell in range(len(cells))]

    def is_at_end(self, road):
        return self.on[road] == [] and self.cells[self.ends[road][0]].is_ended

    def next_move(self, at):
        """Returns the next move of a cell: ("read", place of a road in), ("write",), ("end",), or ("wait", cell).

        It is ("ended",) for one that has ended.
        """
        cell = self.cells[at]
        if cell.is_ended:
            return ("ended",)
        if cell.to_write != []:
            road = self.roads_out[at][cell.to_write[0][0]]
            reader = self.ends[road][1]
            return ("write",) if len(self.on[road]) < self.room or self.cells[reader].is_ended else ("wait", reader)
        if cell.wants_none():
            return ("end",)
        place = cell.turn
        if cell.kind == "turn" and self.is_at_end(self.roads_in[at][place]):
            place = 1 - place
        road = self.roads_in[at][place]
        if self.on[road] != []:
            return ("read", place)
        return ("end",) if self.is_at_end(road) else ("wait", self.ends[road][0])

    def can_move(self, at):
        return self.next_move(at)[0] in ("read", "write", "end")

    def move(self, at):
        """Does the next move of a cell, which can move."""
        cell = self.cells[at]
        match self.next_move(at):
            case ("read", place):
                road = self.roads_in[at][place]
                line = self.on[road][0]
                self.on[road] = self.on[road][1:]
                cell.take_in(line, place)
            case ("write",):
                out, line = cell.to_write[0]
                cell.to_write = cell.to_write[1:]
                road = self.roads_out[at][out]
                if not self.cells[self.ends[road][1]].is_ended:
                    self.on[road] = self.on[road] + [line]
            case ("end",):
                cell.is_ended = True

    def movers(self):
        return [at for at in range(len(self.cells)) if self.can_move(at)]

    def move_all(self, order):
        """Lets the cells of a list move, each as long as it can, over and over until none of them can."""
        has_moved = True
        while has_moved:
            has_moved = False
            for at in order:
                while self.can_move(at):
                    self.move(at)
                    has_moved = True

    def kept(self):
        """Returns the lists of the lines that the "keep all" cells have read."""
        return [list(cell.lines) for cell in self.cells if cell.kind == "keep all"]
