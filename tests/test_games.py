import itertools
import random
import unittest

from dampfield.errors import BadLaying, BadView, FieldError, NoCell, Over, TooGreat
from dampfield.games import Game
from dampfield.sure import sure
from dampfield.views import View, closed, keeps
from samples import plain_opened, plain_rows, sample_stones


def all_cells(height, width):
    return list(itertools.product(range(height), range(width)))


def free_cells(height, width, stones):
    return [cell for cell in all_cells(height, width) if cell not in stones]


class Making(unittest.TestCase):
    def test_all_closed_at_first(self):
        for height, width in itertools.product(range(1, 7), range(1, 7)):
            for stones in [[], [(0, 0)], all_cells(height, width)]:
                game = Game(height, width, stones)
                self.assertIs(type(game.view()), View)
                self.assertEqual(game.view().rows, ["#" * width] * height)
                self.assertEqual((game.view().height, game.view().width), (height, width))

    def refused(self, error, height, width, stones):
        with self.subTest(height=height, width=width, stones=stones):
            with self.assertRaises(error) as caught:
                Game(height, width, stones)
            self.assertIsInstance(caught.exception, FieldError)

    def test_no_such_field(self):
        wrong = [(0, 0), (0, 1), (1, 0), (7, 1), (1, 7), (7, 7), (-1, 3), (3, -1), (-1, -1), (-6, -6)]
        wrong += [(99, 2), (2, 99), (10 ** 9, 10 ** 9), (10 ** 40, 1), (1, 10 ** 40), (-10 ** 40, 1)]
        for height, width in wrong:
            self.refused(BadView, height, width, [])
            self.refused(BadView, height, width, [(0, 0)])

    def test_no_such_field_goes_before_no_such_list(self):
        for height, width in [(0, 1), (1, 0), (7, 1), (1, 7), (10 ** 40, 10 ** 40)]:
            for stones in [[(0, 0), (0, 0)], [(1, 0), (0, 0)], [(-1, 0)], [(99, 99)]]:
                self.refused(BadView, height, width, stones)

    def test_no_such_list(self):
        wrong = [
            [(0, 0), (0, 0)],
            [(0, 1), (0, 0)],
            [(1, 0), (0, 2)],
            [(0, 0), (0, 2), (0, 1)],
            [(0, 0), (1, 0), (1, 0)],
            [(2, 0)],
            [(0, 3)],
            [(-1, 0)],
            [(0, -1)],
            [(-1, -1), (0, 0)],
            [(0, 0), (0, 3), (1, 0)],
            [(0, 0), (9, 9)],
            [(10 ** 20, 0)],
        ]
        for stones in wrong:
            self.refused(BadLaying, 2, 3, stones)


class Uncovering(unittest.TestCase):
    def test_one_cell_with_a_figure(self):
        game = Game(2, 3, [(0, 1), (1, 1)])
        self.assertEqual(game.uncover((0, 0)), [(0, 0)])
        self.assertEqual(game.view().rows, ["2##", "###"])
        self.assertEqual(game.state(), "on")
        self.assertEqual(game.uncover((1, 2)), [(1, 2)])
        self.assertEqual(game.view().rows, ["2##", "##2"])

    def test_eight_stones_near(self):
        game = Game(3, 3, free_cells(3, 3, [(1, 1)]))
        self.assertEqual(game.uncover((1, 1)), [(1, 1)])
        self.assertEqual(game.view().rows, ["###", "#8#", "###"])
        self.assertEqual(game.state(), "won")

    def test_a_figure_of_0_opens_more(self):
        game = Game(1, 6, [(0, 4)])
        self.assertEqual(game.uncover((0, 1)), [(0, 0), (0, 1), (0, 2), (0, 3)])
        self.assertEqual(game.view().rows, ["0001##"])
        self.assertEqual(game.state(), "on")
        self.assertEqual(game.uncover((0, 5)), [(0, 5)])
        self.assertEqual(game.view().rows, ["0001#1"])
        self.assertEqual(game.state(), "won")

    def test_a_figure_of_0_opens_no_more_than_its_rim(self):
        game = Game(3, 6, [(0, 2), (1, 2), (2, 2)])
        self.assertEqual(game.uncover((1, 4)), [(r, c) for r in range(3) for c in (3, 4, 5)])
        self.assertEqual(game.view().rows, ["###200", "###300", "###200"])

    def test_cells_that_are_open_already_are_not_told_again(self):
        game = Game(1, 6, [(0, 0)])
        self.assertEqual(game.uncover((0, 1)), [(0, 1)])
        self.assertEqual(game.uncover((0, 4)), [(0, 2), (0, 3), (0, 4), (0, 5)])
        game = Game(1, 6, [(0, 0)])
        self.assertEqual(game.uncover((0, 1)), [(0, 1)])
        self.assertEqual(game.uncover((0, 2)), [(0, 2), (0, 3), (0, 4), (0, 5)])

    def test_slantwise(self):
        game = Game(6, 6, [(0, 5), (5, 0)])
        self.assertEqual(game.uncover((0, 0)), free_cells(6, 6, [(0, 5), (5, 0)]))
        self.assertEqual(game.state(), "won")

    def test_a_stone_loses(self):
        game = Game(2, 2, [(0, 1)])
        self.assertEqual(game.uncover((1, 0)), [(1, 0)])
        self.assertIsNone(game.uncover((0, 1)))
        self.assertEqual(game.state(), "lost")
        self.assertEqual(game.view().rows, ["##", "1#"])

    def test_a_stone_near_nothing_but_blank_cells_opens_nothing(self):
        game = Game(6, 6, [(3, 3)])
        self.assertIsNone(game.uncover((3, 3)))
        self.assertEqual(game.view().rows, ["######"] * 6)
        self.assertEqual(game.state(), "lost")

    def test_lost_is_over(self):
        game = Game(2, 2, [(0, 1)])
        game.uncover((0, 1))
        self.over(game, [(0, 0), (0, 1), (1, 1), (2, 0), (-1, 0), (0, 99)])
        self.assertEqual(game.state(), "lost")
        self.assertEqual(game.view().rows, ["##", "##"])

    def test_won_is_over(self):
        game = Game(2, 2, [(0, 1)])
        for cell in [(0, 0), (1, 0), (1, 1)]:
            self.assertEqual(game.state(), "on")
            game.uncover(cell)
        self.assertEqual(game.state(), "won")
        self.over(game, [(0, 0), (0, 1), (1, 1), (2, 0), (-1, 0), (0, 99)])
        self.assertEqual(game.state(), "won")
        self.assertEqual(game.view().rows, ["1#", "11"])

    def over(self, game, cells):
        for cell in cells:
            with self.subTest(cell=cell):
                with self.assertRaises(Over) as caught:
                    game.uncover(cell)
                self.assertIsInstance(caught.exception, FieldError)

    def test_without_stones(self):
        for height, width in itertools.product(range(1, 7), range(1, 7)):
            game = Game(height, width, [])
            self.assertEqual(game.state(), "on")
            self.assertEqual(game.uncover((height - 1, width // 2)), all_cells(height, width))
            self.assertEqual(game.state(), "won")
            self.assertEqual(game.view().rows, ["0" * width] * height)
            self.over(game, [(0, 0)])

    def test_stones_in_all_cells(self):
        for height, width in [(1, 1), (1, 6), (6, 1), (3, 4), (6, 6)]:
            game = Game(height, width, all_cells(height, width))
            self.assertEqual(game.state(), "won")
            self.over(game, [(0, 0), (height, 0), (-1, -1)])
            self.assertEqual(game.state(), "won")
            self.assertEqual(game.view().rows, ["#" * width] * height)

    def test_no_closed_cell(self):
        game = Game(2, 3, [(0, 2)])
        game.uncover((0, 1))
        game.uncover((0, 0))
        before = game.view().rows
        self.assertEqual(before, ["01#", "01#"])
        for cell in [(0, 0), (0, 1), (1, 1), (2, 0), (0, 3), (-1, 0), (0, -1), (-1, -1), (-2, -3), (10 ** 20, 0)]:
            with self.subTest(cell=cell):
                with self.assertRaises(NoCell) as caught:
                    game.uncover(cell)
                self.assertIsInstance(caught.exception, FieldError)
        self.assertEqual(game.view().rows, before)
        self.assertEqual(game.state(), "on")
        self.assertEqual(game.uncover((1, 2)), [(1, 2)])
        self.assertEqual(game.state(), "won")

    def test_games_know_nothing_of_one_another(self):
        one, other = Game(2, 2, [(0, 0)]), Game(2, 2, [(0, 0)])
        one.uncover((1, 1))
        self.assertEqual(other.view().rows, ["##", "##"])
        one.uncover((0, 0))
        self.assertEqual(other.state(), "on")

    def test_against_the_plain_telling(self):
        source = random.Random(30)
        for height, width, stones in sample_stones(150):
            game = Game(height, width, stones)
            free = free_cells(height, width, stones)
            opened = []
            while len(opened) < len(free):
                self.assertEqual(game.state(), "on")
                cell = source.choice([other for other in free if other not in opened])
                expected = plain_opened(height, width, stones, opened + [cell])
                self.assertEqual(game.uncover(cell), [other for other in expected if other not in opened])
                opened = expected
                self.assertEqual(game.view().rows, plain_rows(height, width, stones, opened))
                self.assertIs(keeps(game.view(), stones), True)
            self.assertEqual(game.state(), "won")


class Orders(unittest.TestCase):
    def uncovered(self, height, width, stones, order):
        game = Game(height, width, stones)
        for cell in order:
            if cell in closed(game.view()):
                game.uncover(cell)
        return game

    def test_in_whatever_order(self):
        source = random.Random(31)
        for height, width, stones in list(sample_stones(80)) + list(sample_stones(80, share=0.1)):
            free = free_cells(height, width, stones)
            chosen = [cell for cell in free if source.random() < 0.3]
            expected = plain_rows(height, width, stones, plain_opened(height, width, stones, chosen))
            for turn in range(4):
                source.shuffle(chosen)
                game = self.uncovered(height, width, stones, chosen)
                self.assertEqual(game.view().rows, expected)

    def test_every_order_of_a_small_game(self):
        stones = [(0, 3), (1, 0)]
        chosen = [(0, 0), (0, 1), (1, 2), (1, 3), (2, 3)]
        found = {tuple(self.uncovered(3, 4, stones, order).view().rows) for order in itertools.permutations(chosen)}
        self.assertEqual(found, {tuple(plain_rows(3, 4, stones, plain_opened(3, 4, stones, chosen)))})


class SureInAGame(unittest.TestCase):
    def told(self, game, stones, known):
        view = game.view()
        for cell in closed(view):
            try:
                told = sure(view, cell)
            except TooGreat:
                return known
            if cell in known:
                self.assertEqual(told, known[cell], view.rows)
            if told != "open":
                self.assertEqual(told, "stone" if cell in stones else "none", view.rows)
                known[cell] = told
        return known

    def test_it_is_true_and_stays_told(self):
        source = random.Random(32)
        seen = set()
        for height, width, stones in list(sample_stones(60, most=5)) + list(sample_stones(40, share=0.4)):
            game = Game(height, width, stones)
            known = self.told(game, stones, {})
            free = free_cells(height, width, stones)
            source.shuffle(free)
            for cell in free:
                if cell in closed(game.view()):
                    game.uncover(cell)
                    known = self.told(game, stones, known)
            seen.update(known.values())
        self.assertEqual(seen, {"stone", "none"})

    def test_a_lost_game_tells_the_same(self):
        game = Game(1, 4, [(0, 1)])
        game.uncover((0, 0))
        self.assertEqual(sure(game.view(), (0, 1)), "stone")
        game.uncover((0, 1))
        self.assertEqual(sure(game.view(), (0, 1)), "stone")


if __name__ == "__main__":
    unittest.main()
