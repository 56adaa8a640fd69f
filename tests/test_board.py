"""Points 101 and 102, and point 2 for boards."""

import itertools
import unittest

from leasehall.board import Board
from leasehall.errors import Full, NotFound
from leasehall.ledger import at
from leasehall.views import ask_view
from samples import seeded, some_ledger, some_view_question

A = ("get", "a")
LIST = ("list", "a", "z")


def put(key, value):
    return ((key, value),)


def state(board):
    return (board.mark(), [(number, board.answer(number)) for number in board.numbers()])


class Adding(unittest.TestCase):
    """Point 101."""

    def test_a_new_board(self):
        self.assertEqual(state(Board()), (0, []))

    def test_at_the_mark(self):
        board = Board()
        self.assertIs(board.add(3, A, {}, 0), True)
        self.assertEqual(state(board), (0, [(3, (None, 0))]))

    def test_above_the_mark_on_an_empty_board(self):
        board = Board()
        self.assertIs(board.add(3, A, {"a": 7}, 5), True)
        self.assertEqual(state(board), (5, [(3, (7, 5))]))

    def test_below_the_mark_on_an_empty_board(self):
        board = Board()
        for c in [1, 2]:
            board.note(c, put("a", c))
        self.assertIs(board.add(3, A, {"a": 1}, 1), False)
        self.assertEqual(state(board), (2, []))
        self.assertIs(board.add(3, A, {"a": 2}, 2), True)
        self.assertEqual(state(board), (2, [(3, (2, 2))]))

    def test_beside_other_views(self):
        board = Board()
        board.add(1, A, {}, 4)
        for number, moment, stands in [(2, 3, False), (3, 4, True), (4, 5, True), (5, 9, True), (6, 0, False)]:
            self.assertIs(board.add(number, A, {"a": number}, moment), stands)
        expected = [(1, (None, 4)), (3, (3, 4)), (4, (4, 5)), (5, (5, 9))]
        self.assertEqual(state(board), (4, expected))

    def test_a_refused_view_leaves_nothing(self):
        board = Board()
        board.add(1, A, {}, 4)
        self.assertIs(board.add(2, A, {}, 3), False)
        with self.assertRaises(NotFound):
            board.answer(2)
        with self.assertRaises(NotFound):
            board.remove(2)
        self.assertIs(board.add(2, A, {}, 4), True)

    def test_a_number_that_is_there(self):
        board = Board()
        board.add(2, A, {"a": 1}, 4)
        before = state(board)
        for moment in [0, 3, 4, 9]:
            with self.assertRaises(Full):
                board.add(2, LIST, {"a": 5}, moment)
            self.assertEqual(state(board), before)

    def test_early_notes_up_to_the_moment_are_removed(self):
        board = Board()
        for c in [2, 4, 5, 6, 8]:
            board.note(c, put("a", c))
        self.assertEqual(board.mark(), 0)
        self.assertIs(board.add(1, A, {"a": 40}, 4), True)
        self.assertEqual(state(board), (6, [(1, (6, 6))]))
        board.note(7, put("b", 7))
        self.assertEqual(state(board), (8, [(1, (8, 8))]))

    def test_the_mark_moves_after_the_adding(self):
        board = Board()
        board.note(3, put("a", 3))
        board.add(1, A, {"a": 2}, 2)
        self.assertEqual(state(board), (3, [(1, (3, 3))]))

    def test_an_empty_board_at_the_mark_with_early_notes(self):
        board = Board()
        board.note(2, put("a", 2))
        board.add(1, A, {}, 0)
        self.assertEqual(state(board), (0, [(1, (None, 0))]))
        board.note(1, put("b", 1))
        self.assertEqual(state(board), (2, [(1, (2, 2))]))

    def test_numbers_are_ascending(self):
        board = Board()
        for number in [5, -3, 12, 0, 7]:
            board.add(number, A, {}, 0)
        self.assertEqual(board.numbers(), [-3, 0, 5, 7, 12])

    def test_the_records_are_cut(self):
        board = Board()
        board.add(1, ("sum", "b", "c"), {"a": 100, "b": 1, "c": 2, "d": 100}, 0)
        self.assertEqual(board.answer(1), (3, 0))


class Removing(unittest.TestCase):
    def test_a_view(self):
        board = Board()
        board.add(1, A, {}, 3)
        board.add(2, A, {}, 3)
        self.assertIsNone(board.remove(1))
        self.assertEqual(state(board), (3, [(2, (None, 3))]))

    def test_a_view_that_is_not_there(self):
        board = Board()
        board.add(1, A, {}, 3)
        before = state(board)
        for number in [0, 2, -1]:
            with self.assertRaises(NotFound):
                board.remove(number)
            with self.assertRaises(NotFound):
                board.answer(number)
        self.assertEqual(state(board), before)
        board.remove(1)
        with self.assertRaises(NotFound):
            board.remove(1)

    def test_the_last_view_and_one_again(self):
        board = Board()
        board.add(1, A, {"a": 1}, 3)
        board.note(5, put("a", 5))
        board.note(9, put("a", 9))
        board.remove(1)
        self.assertEqual(state(board), (3, []))
        self.assertIs(board.add(1, A, {"a": 2}, 2), False)
        self.assertIs(board.add(1, A, {"a": 7}, 7), True)
        self.assertEqual(state(board), (7, [(1, (7, 7))]))
        board.note(8, put("b", 8))
        self.assertEqual(state(board), (9, [(1, (9, 9))]))


class Notes(unittest.TestCase):
    """Point 102."""

    def test_every_order(self):
        groups = {1: put("a", 1), 2: (("a", 2), ("b", 2)), 3: put("a", None), 4: put("c", 4)}
        for order in itertools.permutations([1, 2, 3, 4]):
            board = Board()
            board.add(0, LIST, {}, 0)
            seen = []
            for c in order:
                self.assertIsNone(board.note(c, groups[c]))
                seen.append(c)
                mark = min(set(range(1, 6)) - set(seen)) - 1
                self.assertEqual((board.mark(), board.answer(0)[1]), (mark, mark))
            self.assertEqual(state(board), (4, [(0, ((("b", 2), ("c", 4)), 4))]))

    def test_notes_twice(self):
        board = Board()
        board.add(0, ("sum", "a", "z"), {}, 0)
        for c in [1, 1, 3, 3, 2, 1, 2, 3]:
            board.note(c, put("abc"[c - 1], c))
        self.assertEqual(state(board), (3, [(0, (6, 3))]))

    def test_notes_up_to_the_mark(self):
        board = Board()
        board.add(0, A, {"a": 5}, 5)
        for c in [0, 1, 4, 5]:
            board.note(c, put("a", 99))
        self.assertEqual(state(board), (5, [(0, (5, 5))]))
        board.note(6, put("a", 6))
        self.assertEqual(state(board), (6, [(0, (6, 6))]))

    def test_notes_without_views(self):
        board = Board()
        for c in [2, 1, 4]:
            board.note(c, put("a", c))
        self.assertEqual(state(board), (2, []))

    def test_views_with_different_moments(self):
        board = Board()
        board.add(1, LIST, {"z": 1}, 2)
        board.add(2, LIST, {"z": 2}, 4)
        board.add(3, LIST, {"z": 3}, 3)
        moments = []
        for c in [3, 4, 5]:
            board.note(c, put("a", c))
            moments.append([board.answer(number)[1] for number in [1, 2, 3]])
        self.assertEqual(moments, [[3, 4, 3], [4, 4, 4], [5, 5, 5]])
        expected = [
            (1, ((("a", 5), ("z", 1)), 5)), (2, ((("a", 5), ("z", 2)), 5)), (3, ((("a", 5), ("z", 3)), 5)),
        ]
        self.assertEqual(state(board), (5, expected))

    def test_a_view_beyond_the_mark_does_not_take_the_notes_that_it_has(self):
        board = Board()
        board.add(1, A, {}, 2)
        board.add(2, A, {"a": 40}, 4)
        board.note(4, put("a", 4))
        board.note(3, put("a", 3))
        self.assertEqual(state(board), (4, [(1, (4, 4)), (2, (40, 4))]))

    def test_mixed_boards(self):
        chance = seeded(102)
        for _ in range(60):
            ledger = some_ledger(chance, 15)
            board, questions = Board(), {}
            for _ in range(80):
                number = chance.randint(0, 4)
                roll = chance.random()
                if roll < 0.6:
                    c = chance.randint(1, 15)
                    board.note(c, ledger[c - 1][1])
                elif roll < 0.85 and number not in board.numbers():
                    moment = chance.randint(0, 15)
                    question = some_view_question(chance)
                    expected = moment >= board.mark()
                    self.assertIs(board.add(number, question, at(ledger, moment), moment), expected)
                    questions[number] = question
                elif number in board.numbers():
                    board.remove(number)
                for number in board.numbers():
                    answer, moment = board.answer(number)
                    self.assertGreaterEqual(moment, board.mark())
                    self.assertEqual(answer, ask_view(at(ledger, moment), questions[number]))


class Copies(unittest.TestCase):
    def test_records_are_copied_and_not_modified(self):
        board = Board()
        records = {"a": 1}
        board.add(1, A, records, 0)
        board.note(1, put("a", 2))
        self.assertEqual(records, {"a": 1})
        records["a"] = 9
        self.assertEqual(board.answer(1), (2, 1))

    def test_numbers_are_new(self):
        board = Board()
        board.add(1, A, {}, 0)
        board.numbers().clear()
        self.assertEqual(board.numbers(), [1])


if __name__ == "__main__":
    unittest.main()
