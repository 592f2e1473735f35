"""Nets of cells that hand lines on over roads."""

from quotedback.cells import degrees_of, is_cell
from quotedback.copies import fresh
from quotedback.errors import InvalidMove, InvalidNet, InvalidOrder
from quotedback.network import NetAtWork

MOST_ROOM = 20


def is_net(net):
    if len(net) != 3:
        return False
    cells, roads, room = net
    if room < 1 or not all([is_cell(told) for told in cells]):
        return False
    if not all([is_road(road, len(cells)) for road in roads]):
        return False
    for at, told in enumerate(cells):
        many_in = len([road for road in roads if road[1] == at])
        many_out = len([road for road in roads if road[0] == at])
        if (many_in, many_out) != degrees_of(told):
            return False
    return not has_way_back(len(cells), roads)


def is_road(road, many):
    return len(road) == 2 and all([0 <= cell < many for cell in road])


def has_way_back(many, roads):
    """Tells whether a way along roads leads back to its own cell."""
    left = list(range(many))
    while left != []:
        # Those to which no road leads from one that is left lie in no such way.
        inner = [at for at in left if any([one in left for one, other in roads if other == at])]
        if inner == left:
            return True
        left = inner
    return False


def check_net(net):
    if not is_net(net):
        raise InvalidNet(fresh(net))


def at_work(net):
    check_net(net)
    return NetAtWork(net, net[2])


def moved_by(net, moves):
    """Returns a net behind some moves."""
    work = at_work(net)
    for cell in moves:
        if not 0 <= cell < len(work.cells) or not work.can_move(cell):
            raise InvalidMove(cell)
        work.move(cell)
    return work


def at_rest(net):
    """Returns a net of which no cell can move any more."""
    work = at_work(net)
    work.move_all(list(range(len(work.cells))))
    return work


def movers(net, moves):
    return moved_by(net, moves).movers()


def behind(net, moves):
    work = moved_by(net, moves)
    return ([list(lines) for lines in work.on], work.kept())


def by_order(net, order):
    check_net(net)
    if sorted(order) != list(range(len(net[0]))):
        raise InvalidOrder(list(order))
    work = at_work(net)
    work.move_all(order)
    return lines_held(work)


def held(net):
    return lines_held(at_rest(net))


def lines_held(work):
    keepers = [cell for cell in work.cells if cell.kind == "keep all"]
    return [list(cell.lines) if cell.is_ended else None for cell in keepers]


def stands_still(net):
    work = at_rest(net)
    return [at for at, cell in enumerate(work.cells) if not cell.is_ended]


def waits_for(net):
    work = at_rest(net)
    for at in range(len(work.cells)):
        ring = ring_from(work, at)
        if ring is not None:
            return ring
    return None


def ring_from(work, start):
    """Returns the ring of waiting cells in which a cell lies, `None` if it lies in none."""
    ring = [start]
    while True:
        told = work.next_move(ring[-1])
        if told[0] != "wait":
            return None
        if told[1] in ring:
            return ring if told[1] == start else None
        ring.append(told[1])


def least_room(net):
    check_net(net)
    for room in range(1, MOST_ROOM + 1):
        work = NetAtWork(net, room)
        work.move_all(list(range(len(work.cells))))
        if all([cell.is_ended for cell in work.cells]):
            return room
    return None


def most_lines(net):
    check_net(net)
    most = [0 for _ in net[1]]
    for reader in range(len(net[0])):
        roads = [at for at, road in enumerate(net[1]) if road[1] == reader]
        for at, many in zip(roads, most_ahead_of(net, reader, roads)):
            most[at] = many
    return most


def most_ahead_of(net, reader, roads):
    """Returns the greatest numbers of lines on some roads to a reader.

    All others move as far as they can ahead of each of its moves; whatever the order, none gets further by then.
    """
    work = NetAtWork(net, net[2])
    others = [at for at in range(len(work.cells)) if at != reader]
    work.move_all(others)
    most = [len(work.on[at]) for at in roads]
    while work.can_move(reader):
        work.move(reader)
        work.move_all(others)
        most = [max(many, len(work.on[at])) for many, at in zip(most, roads)]
    return most
