"""What is sure of a closed cell, and the two layings that show what is not."""

from dampfield.errors import Impossible, NoCell, NotOpen
from dampfield.parts import choices, settled
from dampfield.views import is_closed


def first_laying(found):
    chosen = []
    for choice in found:
        if len(choice[1]) == 0:
            return None
        chosen.extend(choice[1][0])
    return sorted(chosen)


def both_ways(view, cell):
    if not is_closed(view, cell):
        raise NoCell("the cell is no closed cell of the view")
    found = choices(view)
    without = first_laying(settled(found, cell, False))
    having = first_laying(settled(found, cell, True))
    # The cell is of one choice only, so both fail just where some choice has no laying.
    if without is None and having is None:
        raise Impossible("no laying keeps the view")
    return (without, having)


def sure(view, cell):
    found = both_ways(view, cell)
    if found[0] is None:
        return "stone"
    if found[1] is None:
        return "none"
    return "open"


def shown(view, cell):
    found = both_ways(view, cell)
    if found[0] is None or found[1] is None:
        raise NotOpen("the cell is sure")
    return found
