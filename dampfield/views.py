"""Views of a field: its cells, what open ones tell, and the layings that keep it."""

from dampfield.errors import BadLaying, BadView, NoCell

MOST_ROWS = 6
MOST_COLUMNS = 6
CLOSED_SIGN = "#"
SIGNS = "#012345678"


def is_row(row, width):
    return len(row) == width and all([sign in SIGNS for sign in row])


def is_size(height, width):
    return 1 <= height <= MOST_ROWS and 1 <= width <= MOST_COLUMNS


def is_view(rows):
    if len(rows) == 0 or not is_size(len(rows), len(rows[0])):
        return False
    return all([is_row(row, len(rows[0])) for row in rows])


class View:
    def __init__(self, rows):
        if not is_view(rows):
            raise BadView("the rows are no view of a field")
        # A copy, so that nothing hangs on what is done with the list later.
        self.rows = list(rows)
        self.height = len(rows)
        self.width = len(rows[0])


def has_cell(view, cell):
    return 0 <= cell[0] < view.height and 0 <= cell[1] < view.width


def is_closed(view, cell):
    # The field is asked first: a negative number would else count from a row's end.
    return has_cell(view, cell) and view.rows[cell[0]][cell[1]] == CLOSED_SIGN


def figure(view, cell):
    return int(view.rows[cell[0]][cell[1]])


def cells(view):
    found = []
    for row in range(view.height):
        for column in range(view.width):
            found.append((row, column))
    return found


def near(view, cell):
    if not has_cell(view, cell):
        raise NoCell("the cell is none of the field")
    found = []
    for row in range(max(cell[0] - 1, 0), min(cell[0] + 2, view.height)):
        for column in range(max(cell[1] - 1, 0), min(cell[1] + 2, view.width)):
            if (row, column) != cell:
                found.append((row, column))
    return found


def closed_near(view, cell):
    return [other for other in near(view, cell) if is_closed(view, other)]


def open_near(view, cell):
    return [other for other in near(view, cell) if not is_closed(view, other)]


def closed(view):
    return [cell for cell in cells(view) if is_closed(view, cell)]


def edge(view):
    return [cell for cell in closed(view) if len(open_near(view, cell)) > 0]


def far(view):
    return [cell for cell in closed(view) if len(open_near(view, cell)) == 0]


def is_laying(view, laying):
    for place in range(1, len(laying)):
        # Two equal cells are refused here too: none may come twice.
        if laying[place - 1] >= laying[place]:
            return False
    return all([is_closed(view, cell) for cell in laying])


def stones_near(view, cell, laying):
    return len([other for other in near(view, cell) if other in laying])


def keeps(view, laying):
    if not is_laying(view, laying):
        raise BadLaying("the list is no laying of the view")
    for cell in cells(view):
        if not is_closed(view, cell) and figure(view, cell) != stones_near(view, cell, laying):
            return False
    return True
