"""Games: a field with hidden stones, uncovered cell by cell."""

from dampfield.errors import BadLaying, BadView, NoCell, Over
from dampfield.views import CLOSED_SIGN, View, has_cell, is_laying, is_size, near, stones_near


class Game:
    def __init__(self, height, width, stones):
        # Asked ahead of the rows, which would be too many to make for sizes far off.
        if not is_size(height, width):
            raise BadView("there is no field of that size")
        field = View([CLOSED_SIGN * width] * height)
        if not is_laying(field, stones):
            raise BadLaying("the stones are no rising list of cells of the field")
        self.field = field
        # A copy, so that nothing hangs on what is done with the list later.
        self.hidden = list(stones)
        self.figures = {}
        self.lost = False

    def uncover(self, cell):
        if self.state() != "on":
            raise Over("the game is over")
        if not has_cell(self.field, cell) or cell in self.figures:
            raise NoCell("the cell is no closed cell of the field")
        if cell in self.hidden:
            self.lost = True
            return None
        opened = []
        waiting = [cell]
        while len(waiting) > 0:
            member = waiting.pop()
            if member not in self.figures:
                self.figures[member] = stones_near(self.field, member, self.hidden)
                opened.append(member)
                if self.figures[member] == 0:
                    waiting.extend(near(self.field, member))
        return sorted(opened)

    def view(self):
        rows = []
        for row in range(self.field.height):
            signs = [str(self.figures.get((row, column), CLOSED_SIGN)) for column in range(self.field.width)]
            rows.append("".join(signs))
        return View(rows)

    def state(self):
        if self.lost:
            return "lost"
        if len(self.figures) + len(self.hidden) == self.field.height * self.field.width:
            return "won"
        return "on"
