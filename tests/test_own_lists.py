"""Nothing handed in is changed or kept, and what is told is the asker's own."""

import unittest

from dampfield.counts import chance, count
from dampfield.games import Game
from dampfield.parts import layings, parts
from dampfield.sure import shown, sure
from dampfield.views import View, closed, edge, far, keeps, near
from samples import THREE_PARTS, TWELVE, TWELVE_AND_SMALL


def answers(view):
    return [
        list(view.rows), view.height, view.width,
        near(view, (0, 0)), closed(view), edge(view), far(view),
        keeps(view, []), parts(view), [layings(view, part[0]) for part in parts(view)],
        [count(view, stones) for stones in range(-1, 10)],
    ]


def open_answers(view):
    """What is told of views in which (0, 1) is open."""
    stones = [number for number in range(37) if count(view, number) > 0][0]
    return answers(view) + [
        [chance(view, stones, cell) for cell in closed(view)],
        [sure(view, cell) for cell in closed(view)],
        shown(view, (0, 1)),
    ]


def lists_of(told):
    found = [told]
    for inner in told:
        if isinstance(inner, list):
            found += lists_of(inner)
    return found


OPEN_VIEWS = [THREE_PARTS, TWELVE, TWELVE_AND_SMALL, ["1##", "###"], ["##", "##"], ["######"] * 6]


class HandedIn(unittest.TestCase):
    def test_rows_stay_as_they_were(self):
        rows = list(THREE_PARTS)
        answers(View(rows))
        self.assertEqual(rows, THREE_PARTS)

    def test_rows_are_not_kept(self):
        rows = list(THREE_PARTS)
        view = View(rows)
        before = answers(view)
        rows[0] = "000000"
        rows.append("no row")
        self.assertEqual(view.rows, THREE_PARTS)
        self.assertEqual(answers(view), before)
        rows.clear()
        self.assertEqual(answers(view), before)

    def test_two_views_of_one_list_share_nothing(self):
        rows = ["1#"]
        one, other = View(rows), View(rows)
        self.assertIsNot(one.rows, other.rows)
        self.assertIsNot(one.rows, rows)

    def test_a_view_from_the_rows_of_another(self):
        one = View(["1#"])
        self.assertIsNot(View(one.rows).rows, one.rows)

    def test_refused_rows_stay_as_they_were(self):
        rows = ["##", "#9"]
        with self.assertRaises(ValueError):
            View(rows)
        self.assertEqual(rows, ["##", "#9"])

    def test_a_laying_stays_as_it_was(self):
        view = View(["1##", "###"])
        laying = [(0, 1), (0, 2)]
        self.assertIs(keeps(view, laying), True)
        self.assertEqual(laying, [(0, 1), (0, 2)])
        laying.append((1, 0))
        self.assertIs(keeps(view, laying), False)
        self.assertEqual(laying, [(0, 1), (0, 2), (1, 0)])
        self.assertIs(keeps(view, [(0, 1), (0, 2)]), True)

    def test_a_list_that_is_no_laying_stays_as_it_was(self):
        laying = [(0, 2), (0, 1), (0, 1)]
        with self.assertRaises(ValueError):
            keeps(View(["1##"]), laying)
        self.assertEqual(laying, [(0, 2), (0, 1), (0, 1)])

    def test_a_view_stays_as_it_was(self):
        view = View(THREE_PARTS)
        answers(view)
        self.assertEqual((view.rows, view.height, view.width), (THREE_PARTS, 6, 6))

    def test_rows_are_not_kept_by_counts_nor_by_what_is_sure(self):
        for given in [THREE_PARTS, TWELVE, ["1##", "###"]]:
            rows = list(given)
            view = View(rows)
            before = open_answers(view)
            self.assertEqual(rows, given)
            rows[0] = "8" * len(rows[0])
            rows.append("no row")
            self.assertEqual(open_answers(view), before)
            self.assertEqual((view.rows, view.height, view.width), (given, len(given), len(given[0])))


class HandedToAGame(unittest.TestCase):
    def test_stones_stay_as_they_were(self):
        stones = [(0, 1), (1, 1)]
        game = Game(2, 4, stones)
        game.uncover((0, 3))
        game.uncover((0, 0))
        game.view()
        game.state()
        game.uncover((0, 1))
        self.assertEqual(stones, [(0, 1), (1, 1)])

    def test_stones_are_not_kept(self):
        stones = [(0, 1), (1, 1)]
        game = Game(2, 4, stones)
        stones.clear()
        self.assertEqual(game.uncover((0, 0)), [(0, 0)])
        stones.extend([(1, 0), (9, 9)])
        self.assertEqual(game.uncover((1, 0)), [(1, 0)])
        self.assertEqual(game.view().rows, ["2###", "2###"])
        self.assertEqual(game.state(), "on")
        self.assertEqual(game.uncover((1, 3)), [(0, 2), (0, 3), (1, 2), (1, 3)])
        self.assertEqual(game.state(), "won")

    def test_a_stone_taken_away_later_still_loses(self):
        stones = [(0, 1)]
        game = Game(1, 3, stones)
        stones.clear()
        self.assertIsNone(game.uncover((0, 1)))

    def test_two_games_of_one_list(self):
        stones = [(0, 0)]
        one = Game(1, 3, stones)
        stones.append((0, 1))
        other = Game(1, 3, stones)
        self.assertEqual(one.uncover((0, 1)), [(0, 1)])
        self.assertIsNone(other.uncover((0, 1)))

    def test_refused_stones_stay_as_they_were(self):
        stones = [(0, 1), (0, 0), (0, 0)]
        for height in (1, 7):
            with self.assertRaises(ValueError):
                Game(height, 3, stones)
        self.assertEqual(stones, [(0, 1), (0, 0), (0, 0)])


class ToldByAGame(unittest.TestCase):
    def test_a_view_told_earlier_stays_as_it_was(self):
        game = Game(2, 4, [(0, 1)])
        first = game.view()
        game.uncover((0, 0))
        second = game.view()
        game.uncover((1, 3))
        third = game.view()
        game.uncover((0, 1))
        self.assertEqual(first.rows, ["####", "####"])
        self.assertEqual(second.rows, ["1###", "####"])
        self.assertEqual(third.rows, ["1#10", "##10"])
        self.assertEqual(game.view().rows, ["1#10", "##10"])

    def test_each_view_is_a_new_one(self):
        game = Game(2, 4, [(0, 1)])
        told = [game.view(), game.view()]
        game.uncover((0, 0))
        told += [game.view(), game.view()]
        self.assertEqual(len({id(view) for view in told}), 4)
        self.assertEqual(len({id(view.rows) for view in told}), 4)

    def test_what_is_done_with_a_view_is_nothing_to_the_game(self):
        game = Game(2, 4, [(0, 1)])
        told = game.view()
        told.rows[0] = "0000"
        told.height = 1
        self.assertEqual(game.view().rows, ["####", "####"])
        self.assertEqual(game.uncover((1, 3)), [(0, 2), (0, 3), (1, 2), (1, 3)])
        told = game.view()
        told.rows.clear()
        self.assertEqual(game.view().rows, ["##10", "##10"])

    def test_changing_what_was_opened_changes_nothing(self):
        game = Game(2, 4, [(0, 1)])
        first = game.uncover((0, 0))
        first.append((0, 1))
        second = game.uncover((1, 3))
        second.clear()
        self.assertEqual(first, [(0, 0), (0, 1)])
        self.assertEqual(game.view().rows, ["1#10", "##10"])
        self.assertEqual(game.uncover((1, 0)), [(1, 0)])
        self.assertEqual(game.state(), "on")

    def test_cells_are_tuples(self):
        told = Game(6, 6, [(0, 0)]).uncover((5, 5))
        self.assertIs(type(told), list)
        self.assertEqual({type(cell) for cell in told}, {tuple})


class Told(unittest.TestCase):
    def asked(self, view):
        return [
            lambda: near(view, (0, 1)),
            lambda: closed(view),
            lambda: edge(view),
            lambda: far(view),
            lambda: parts(view),
            lambda: layings(view, (0, 1)),
        ]

    def test_changing_what_was_told_changes_no_later_answer(self):
        for rows in [THREE_PARTS, TWELVE, ["1##", "###"], ["0#"], ["2#"]]:
            view = View(rows)
            before = answers(view)
            for ask in self.asked(view):
                for told in lists_of(ask()):
                    told.append((7, 7))
                    told.reverse()
                for told in lists_of(ask()):
                    told.clear()
            self.assertEqual(answers(view), before)

    def test_no_two_lists_are_one(self):
        for rows in [THREE_PARTS, TWELVE, ["1##", "###"], ["0#"], ["2#"]]:
            view = View(rows)
            kept = [view.rows]
            for ask in self.asked(view) + self.asked(view):
                kept += lists_of(ask())
            self.assertEqual(len({id(told) for told in kept}), len(kept))

    def test_the_two_layings_shown_are_the_askers_own(self):
        for rows in OPEN_VIEWS:
            view = View(rows)
            before = open_answers(view)
            kept = [view.rows]
            for cell in closed(view):
                kept += list(shown(view, cell)) + list(shown(view, cell))
            self.assertEqual(len({id(told) for told in kept}), len(kept))
            for told in kept[1:]:
                told.append((7, 7))
                told.reverse()
            self.assertEqual(open_answers(view), before)

    def test_changing_parts_and_layings_changes_no_chance(self):
        for rows in OPEN_VIEWS:
            view = View(rows)
            before = open_answers(view)
            told = lists_of(parts(view)) + [far(view), edge(view), closed(view)]
            for part in parts(view):
                told += lists_of(layings(view, part[0]))
            for inner in told:
                inner.clear()
            self.assertEqual(open_answers(view), before)

    def test_cells_are_tuples(self):
        view = View(THREE_PARTS)
        told = near(view, (1, 1)) + closed(view) + edge(view) + far(view)
        for inner in parts(view) + layings(view, (0, 1)) + list(shown(view, (0, 1))):
            told += inner
        self.assertEqual({type(cell) for cell in told}, {tuple})
        self.assertEqual({type(number) for cell in told for number in cell}, {int})


if __name__ == "__main__":
    unittest.main()
