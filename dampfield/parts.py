"""The parts of a view's edge, the layings of a part, and what all layings are put together from."""

from dampfield.errors import NoCell, TooGreat
from dampfield.views import cells, closed_near, edge, far, figure, is_closed, open_near

MOST_CELLS = 12


def joined(view, cell):
    found = {cell: True}
    waiting = [cell]
    while len(waiting) > 0:
        member = waiting.pop()
        for teller in open_near(view, member):
            for other in closed_near(view, teller):
                if other not in found:
                    found[other] = True
                    waiting.append(other)
    return sorted(found)


def parts(view):
    found = []
    placed = {}
    # The edge rises, so each part is met first by its least cell.
    for cell in edge(view):
        if cell not in placed:
            part = joined(view, cell)
            found.append(part)
            for member in part:
                placed[member] = True
    return found


def demands(view, last):
    # All cells near an open one are of the same part, so those behind the last
    # one that was settled are just those that may still get a stone.
    found = []
    for teller in open_near(view, last):
        around = closed_near(view, teller)
        behind = [cell for cell in around if cell > last]
        found.append((figure(view, teller), around, len(behind)))
    return found


def may_hold(laying, asked):
    for demand in asked:
        stones = len([cell for cell in demand[1] if cell in laying])
        if not stones <= demand[0] <= stones + demand[2]:
            return False
    return True


def layings(view, cell):
    if cell not in edge(view):
        raise NoCell("the cell is no edge cell of the view")
    part = joined(view, cell)
    if len(part) > MOST_CELLS:
        raise TooGreat("the part has too many cells for its layings to be told")
    begun = [[]]
    for member in part:
        asked = demands(view, member)
        both = begun + [laying + [member] for laying in begun]
        # What can't hold any more is dropped at once. An open cell is asked again
        # with the last cell near it, and then must tell the number to the point.
        begun = [laying for laying in both if may_hold(laying, asked)]
    return sorted(begun)


def is_lone(view, cell):
    return not is_closed(view, cell) and len(closed_near(view, cell)) == 0


def lone_layings(view):
    # No stone can lie near a lone open cell: it leaves the laying without cells if it
    # tells 0, and else none at all.
    for cell in cells(view):
        if is_lone(view, cell) and figure(view, cell) > 0:
            return []
    return [[]]


def choices(view):
    # Each is a tuple of some cells and their layings, and no cell stands in two of them.
    # So one laying out of each, put together, keeps the view, and each laying that keeps
    # the view is put together in just one way.
    found = [([], lone_layings(view))]
    for part in parts(view):
        found.append((part, layings(view, part[0])))
    for cell in far(view):
        found.append(([cell], [[], [cell]]))
    return found


def settled(found, cell, stone):
    left = []
    for choice in found:
        if cell in choice[0]:
            left.append((choice[0], [laying for laying in choice[1] if (cell in laying) == stone]))
        else:
            left.append(choice)
    return left
