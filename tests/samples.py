"""Views that several tests use, and a slow, plain second telling of the document."""

import itertools
import random

from dampfield.views import View

# One part of just 12 cells, and one of just 13.
TWELVE = ["######", "233332", "######"]
THIRTEEN = ["######", "23333#", "######"]

# A part of 13 cells, far cells between, and a part of 3 cells.
GREAT_AND_SMALL = ["######", "23333#", "######", "######", "######", "1#####"]
SMALL_PART = [(4, 0), (4, 1), (5, 1)]

# Three parts and far cells.
THREE_PARTS = ["1####1", "######", "######", "######", "######", "2#####"]


def sample_views(how_many, most=6, signs="###0112233"):
    source = random.Random(20)
    for turn in range(how_many):
        height = source.randint(1, most)
        width = source.randint(1, most)
        yield View(["".join(source.choice(signs) for column in range(width)) for row in range(height)])


def honest_views(how_many, most=6):
    """Views whose open cells tell the truth about some laying, with that laying."""
    source = random.Random(21)
    for turn in range(how_many):
        height = source.randint(1, most)
        width = source.randint(1, most)
        field = list(itertools.product(range(height), range(width)))
        stones = [cell for cell in field if source.random() < 0.3]
        hidden = [cell for cell in field if cell in stones or source.random() < 0.3]
        rows = []
        for row in range(height):
            signs = ""
            for column in range(width):
                told = len([s for s in stones if are_near(s, (row, column))])
                signs += "#" if (row, column) in hidden else str(told)
            rows.append(signs)
        yield View(rows), stones


def are_near(one, other):
    return one != other and abs(one[0] - other[0]) <= 1 and abs(one[1] - other[1]) <= 1


def plain_field(rows):
    return {(r, c): sign for r, row in enumerate(rows) for c, sign in enumerate(row)}


def plain_near(rows, cell):
    return sorted(other for other in plain_field(rows) if are_near(cell, other))


def plain_closed(rows):
    return sorted(cell for cell, sign in plain_field(rows).items() if sign == "#")


def plain_open(rows):
    return sorted(cell for cell, sign in plain_field(rows).items() if sign != "#")


def plain_edge(rows):
    return [cell for cell in plain_closed(rows) if any(are_near(cell, o) for o in plain_open(rows))]


def plain_keeps(rows, laying):
    field = plain_field(rows)
    return all(
        int(field[cell]) == sum(are_near(cell, stone) for stone in laying)
        for cell in plain_open(rows)
    )


def plain_parts(rows):
    groups = [{cell} for cell in plain_edge(rows)]
    for teller in plain_open(rows):
        touched = [group for group in groups if any(are_near(teller, cell) for cell in group)]
        if touched:
            groups = [group for group in groups if group not in touched] + [set().union(*touched)]
    return sorted(sorted(group) for group in groups)


def plain_layings(rows, part):
    field = plain_field(rows)
    tellers = [o for o in plain_open(rows) if any(are_near(o, cell) for cell in part)]
    found = []
    for size in range(len(part) + 1):
        for chosen in itertools.combinations(part, size):
            if all(int(field[o]) == sum(are_near(o, s) for s in chosen) for o in tellers):
                found.append(list(chosen))
    return sorted(found)


def all_lists(cells):
    for size in range(len(cells) + 1):
        for chosen in itertools.combinations(cells, size):
            yield list(chosen)


# A part of just 12 cells and one of 3, far cells between; and two parts of just 12.
TWELVE_AND_SMALL = ["######", "233332", "######", "######", "######", "1#####"]
TWICE_TWELVE = ["######", "233332", "######", "######", "233332", "######"]

# A part of just 13 cells, and an open cell that tells 5 without a closed cell near it.
GREAT_AND_LYING = ["######", "23333#", "######", "222222", "500000"]


def plain_whole(rows):
    """All layings that keep the view, by going through every list of closed cells."""
    return [laying for laying in all_lists(plain_closed(rows)) if plain_keeps(rows, laying)]


def few_closed_views(how_many, most_closed=8):
    """Views with few closed cells, true to some laying or not, small enough to go through."""
    for view in sample_views(how_many, most=3, signs="####0123"):
        if len(plain_closed(view.rows)) <= most_closed:
            yield view
    for view, stones in honest_views(how_many):
        if len(plain_closed(view.rows)) <= most_closed:
            yield view


def small_parts(rows):
    return all(len(part) <= 12 for part in plain_parts(rows))


def sample_stones(how_many, most=6, share=0.2):
    """Sizes of fields, each with a rising list of stones."""
    source = random.Random(22)
    for turn in range(how_many):
        height = source.randint(1, most)
        width = source.randint(1, most)
        field = itertools.product(range(height), range(width))
        yield height, width, [cell for cell in field if source.random() < share]


def plain_opened(height, width, stones, uncovered):
    """The cells that are open behind uncovering these, by going round until no more open."""
    field = list(itertools.product(range(height), range(width)))
    found = set(uncovered)
    while True:
        blank = [cell for cell in found if not any(are_near(cell, stone) for stone in stones)]
        more = {cell for cell in field if any(are_near(cell, other) for other in blank)}
        if more <= found:
            return sorted(found)
        found |= more


def plain_rows(height, width, stones, opened):
    rows = []
    for row in range(height):
        signs = ""
        for column in range(width):
            told = sum(are_near(stone, (row, column)) for stone in stones)
            signs += str(told) if (row, column) in opened else "#"
        rows.append(signs)
    return rows
