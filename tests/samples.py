"""Views that several tests use, and a slow, plain second telling of the document."""

import itertools
import random

from dampfield.views import View

# One part of just 12 cells, and one of just 13.
TWELVE = ["######", "233332", "######"]
THIRTEEN = ["######", "23333#", "######"]

# A part of 13 cells, far cells between, and a part of 3 cells.
GREAT_AND_SMALL = ["######", "23333#", "######", "######", "######", "1#####"]
SMALL_PART = [(4, 0), (4, 1), (5, 1)]

# Three parts and far cells.
THREE_PARTS = ["1####1", "######", "######", "######", "######", "2#####"]


def sample_views(how_many, most=6, signs="###0112233"):
    source = random.Random(20)
    for turn in range(how_many):
        height = source.randint(1, most)
        width = source.randint(1, most)
        yield View(["".join(source.choice(signs) for column in range(width)) for row in range(height)])


def honest_views(how_many, most=6):
    """Views whose open cells tell the truth about some laying, with that laying."""
    source = random.Random(21)
    for turn in range(how_many):
        height = source.randint(1, most)
        width = source.randint(1, most)
        field = list(itertools.product(range(height), range(width)))
        stones = [cell for cell in field if source.random() < 0.3]
        hidden = [cell for cell in field if cell in stones or source.random() < 0.3]
        rows = []
        for row in range(height):
            signs = ""
            for column in range(width):
                told = len([s for s in stones if are_near(s, (row, column))])
                signs += "#" if (row, column) in hidden else str(told)
            rows.append(signs)
        yield View(rows), stones


def are_near(one, other):
    return one != other and abs(one[0] - other[0]) <= 1 and abs(one[1] - other[1]) <= 1


def plain_field(rows):
    return {(r, c): sign for r, row in enumerate(rows) for c, sign in enumerate(row)}


def plain_near(rows, cell):
    return sorted(other for other in plain_field(rows) if are_near(cell, other))


def plain_closed(rows):
    return sorted(cell for cell, sign in plain_field(rows).items() if sign == "#")


def plain_open(rows):
    return sorted(cell for cell, sign in plain_field(rows).items() if sign != "#")


def plain_edge(rows):
    return [cell for cell in plain_closed(rows) if any(are_near(cell, o) for o in plain_open(rows))]


def plain_keeps(rows, laying):
    field = plain_field(rows)
    return all(
        int(field[cell]) == sum(are_near(cell, stone) for stone in laying)
        for cell in plain_open(rows)
    )


def plain_parts(rows):
    groups = [{cell} for cell in plain_edge(rows)]
    for teller in plain_open(rows):
        touched = [group for group in groups if any(are_near(teller, cell) for cell in group)]
        if touched:
            groups = [group for group in groups if group not in touched] + [set().union(*touched)]
    return sorted(sorted(group) for group in groups)


def plain_layings(rows, part):
    field = plain_field(rows)
    tellers = [o for o in plain_open(rows) if any(are_near(o, cell) for cell in part)]
    found = []
    for size in range(len(part) + 1):
        for chosen in itertools.combinations(part, size):
            if all(int(field[o]) == sum(are_near(o, s) for s in chosen) for o in tellers):
                found.append(list(chosen))
    return sorted(found)


def all_lists(cells):
    for size in range(len(cells) + 1):
        for chosen in itertools.combinations(cells, size):
            yield list(chosen)
