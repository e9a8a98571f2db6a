"""How many layings keep a view with so many stones, and how likely a cell has one."""

from dampfield.errors import Impossible, NoCell
from dampfield.parts import choices, settled
from dampfield.views import is_closed


def by_stones(choice):
    numbers = [0] * (len(choice[0]) + 1)
    for laying in choice[1]:
        numbers[len(laying)] += 1
    return numbers


def product(one, other):
    found = [0] * (len(one) + len(other) - 1)
    for place in range(len(one)):
        for further in range(len(other)):
            found[place + further] += one[place] * other[further]
    return found


def number_of(found, stones):
    # The choices are counted one by one and multiplied: 36 far cells could not be gone through.
    numbers = [1]
    for choice in found:
        numbers = product(numbers, by_stones(choice))
    if not 0 <= stones < len(numbers):
        return 0
    return numbers[stones]


def common_divisor(one, other):
    while other != 0:
        rest = one % other
        one = other
        other = rest
    return one


def count(view, stones):
    return number_of(choices(view), stones)


def chance(view, stones, cell):
    if not is_closed(view, cell):
        raise NoCell("the cell is no closed cell of the view")
    found = choices(view)
    under = number_of(found, stones)
    if under == 0:
        raise Impossible("no laying with so many stones keeps the view")
    top = number_of(settled(found, cell, True), stones)
    shared = common_divisor(top, under)
    return (top // shared, under // shared)
