"""Points 12 and 13: places, live tables and their scans."""

import random
import unittest

from ownwake.errors import NoRow
from ownwake.scans import LiveTable, is_ahead
from samples import ODD, SlowTable, is_plain

HEAP, UP, DOWN = ("heap",), ("up", 0), ("down", 0)


class Places(unittest.TestCase):
    def check(self, path, one, other, expected):
        self.assertIs(is_ahead(path, one, other), expected)
        self.assertIs(is_ahead(path=path, one=other, other=one), not expected if one != other else expected)

    def test_heaps(self):
        self.check(HEAP, (0, 9), (1, 0), True)
        self.check(HEAP, (5, 0), (3, 0), False)
        self.check(HEAP, (4, 1), (4, 1), False)
        self.assertIs(is_ahead(HEAP, (4, 1), (4, 2)), False)
        self.assertIs(is_ahead(HEAP, (4, 2), (4, 1)), False)

    def test_up(self):
        for path in (("up", "a"), ("up", 0)):
            self.check(path, (0, 3), (1, 2), False)
            self.check(path, (1, 2), (0, 3), True)
            self.check(path, (0, 3), (1, 3), True)
            self.check(path, (2, 3), (1, 3), False)
            self.check(path, (2, 3), (2, 4), True)
            self.check(path, (2, -3), (2, -3), False)

    def test_down(self):
        for path in (("down", "a"), ("down", 0)):
            self.check(path, (0, 3), (1, 2), True)
            self.check(path, (1, 2), (0, 3), False)
            self.check(path, (0, 3), (1, 3), False)
            self.check(path, (2, 3), (1, 3), True)
            self.check(path, (2, 3), (2, 4), False)
            self.check(path, (2, -3), (2, -3), False)


ROWS = ((0, (5, 1)), (2, (3, 2)), (3, (5, 0)), (7, (-4, 9)))


class Tables(unittest.TestCase):
    def setUp(self):
        self.table = LiveTable(ROWS, 9)

    def missing(self, number, call, *values):
        before = self.table.rows
        with self.assertRaises(NoRow) as caught:
            call(number, *values)
        self.assertEqual((caught.exception.name, caught.exception.number), ("", number))
        self.assertEqual(self.table.rows, before)

    def test_rows(self):
        self.assertEqual(self.table.rows, ROWS)
        self.assertTrue(is_plain(self.table.rows))
        self.assertEqual(len(self.table), 4)
        self.assertEqual([number for number in range(9) if number in self.table], [0, 2, 3, 7])
        self.assertEqual((LiveTable().rows, len(LiveTable())), ((), 0))
        self.assertEqual(LiveTable(rows=ROWS, following=8).put(1, 1), 8)

    def test_put(self):
        self.assertEqual(self.table.put(6, 6), 9)
        self.assertEqual(self.table.put(1, 2), 10)
        self.assertEqual(self.table.rows, (*ROWS, (9, (6, 6)), (10, (1, 2))))
        self.assertEqual(len(self.table), 6)
        self.assertEqual(LiveTable().put(3), 0)

    def test_change(self):
        self.assertIsNone(self.table.change(2, (8, 8)))
        self.assertEqual(self.table.rows, (ROWS[0], (2, (8, 8)), *ROWS[2:]))
        self.table.change(number=2, values=ROWS[1][1])
        self.assertEqual(self.table.rows, ROWS)
        for number in (1, 9, -1):
            self.missing(number, self.table.change, (1, 1))

    def test_drop(self):
        self.assertIsNone(self.table.drop(2))
        self.assertEqual(self.table.rows, (ROWS[0], *ROWS[2:]))
        self.assertNotIn(2, self.table)
        self.assertEqual(len(self.table), 3)
        self.missing(2, self.table.drop)
        self.missing(2, self.table.change, (1, 1))
        self.missing(9, self.table.drop)
        self.table.drop(number=7)
        # The number of a row that is gone is not used again.
        self.assertEqual(self.table.put(0, 0), 9)

    def test_tables_share_nothing(self):
        other = LiveTable(ROWS, 9)
        other.put(1, 1)
        other.drop(0)
        self.assertEqual(self.table.rows, ROWS)
        self.assertEqual(ROWS[0], (0, (5, 1)))

    def test_only_integers_are_numbers(self):
        table = LiveTable(((0, (1,)), (1, (2,))), 2)
        for thing in ODD:
            if type(thing) is not int:
                self.assertIs(thing in table, False)


class NextRows(unittest.TestCase):
    def setUp(self):
        self.table = LiveTable(ROWS, 9)

    def numbers(self, path, **bounds):
        return [number for number, _ in self.table.scan(path, **bounds)]

    def test_first_rows(self):
        for path, number in [(HEAP, 0), (UP, 7), (DOWN, 3), (("up", 1), 3), (("down", 1), 7)]:
            self.assertEqual(self.table.next_row(path), (number, dict(ROWS)[number]))
            self.assertIsNone(LiveTable().next_row(path))

    def test_behind_a_place(self):
        for path, place, number in [
                (HEAP, (0,), 2), (HEAP, (1,), 2), (HEAP, (-5,), 0), (HEAP, (6,), 7), (HEAP, (7,), None),
                (UP, (-4, 7), 2), (UP, (-5, 0), 7), (UP, (3, 2), 0), (UP, (3, 1), 2), (UP, (5, 0), 3), (UP, (5, 2), 3),
                (UP, (5, -1), 0), (UP, (5, 3), None), (DOWN, (9, 0), 3), (DOWN, (5, 4), 3), (DOWN, (5, 3), 0),
                (DOWN, (5, 0), 2), (DOWN, (4, 9), 2), (DOWN, (3, 2), 7), (DOWN, (-4, 7), None), (DOWN, (-4, 8), 7)]:
            row = None if number is None else (number, dict(ROWS)[number])
            self.assertEqual(self.table.next_row(path, place), row)
            self.assertEqual(self.table.next_row(path=path, place=place, least=None, most=None), row)

    def test_bounds(self):
        self.assertEqual(self.table.next_row(UP, least=3), (2, (3, 2)))
        self.assertEqual(self.table.next_row(UP, least=4), (0, (5, 1)))
        self.assertIsNone(self.table.next_row(UP, least=6))
        self.assertEqual(self.table.next_row(DOWN, most=5), (3, (5, 0)))
        self.assertEqual(self.table.next_row(DOWN, most=4), (2, (3, 2)))
        self.assertIsNone(self.table.next_row(DOWN, most=-5))
        self.assertIsNone(self.table.next_row(UP, (3, 2), most=4))
        self.assertEqual(self.table.next_row(UP, (-4, 7), least=4, most=5), (0, (5, 1)))
        self.assertEqual(self.table.next_row(UP, least=0, most=0), None)

    def test_scans(self):
        self.assertEqual(list(self.table.scan(HEAP)), list(ROWS))
        self.assertTrue(is_plain(tuple(self.table.scan(HEAP))))
        self.assertEqual(self.numbers(HEAP, least=None, most=None), [0, 2, 3, 7])
        for path, numbers in [(UP, [7, 2, 0, 3]), (DOWN, [3, 0, 2, 7]), (("up", 1), [3, 0, 2, 7])]:
            self.assertEqual(self.numbers(path), numbers)
        for bounds, numbers in [
                ({"least": 3}, [2, 0, 3]), ({"least": 4}, [0, 3]), ({"most": 3}, [7, 2]), ({"most": 2}, [7]),
                ({"least": -4, "most": 3}, [7, 2]), ({"least": 3, "most": 3}, [2]), ({"least": 4, "most": 3}, []),
                ({"least": 9, "most": -9}, []), ({"least": 0, "most": 0}, [])]:
            self.assertEqual(self.numbers(UP, **bounds), numbers)
            turned = self.numbers(DOWN, **bounds)
            self.assertEqual(sorted(turned), sorted(numbers))
            self.assertEqual(turned, sorted(numbers, key=lambda n: (dict(ROWS)[n][0], n), reverse=True))

    def test_bounds_of_a_table_with_none(self):
        self.assertEqual(list(LiveTable().scan(UP, least=0)), [])


class ScansWhileRowsChange(unittest.TestCase):
    def setUp(self):
        self.table = LiveTable(((0, (1,)), (1, (4,)), (2, (7,))), 3)

    def follow(self, path, changes, **bounds):
        """What a scan returns if these calls are made, each behind one of its rows."""
        seen = []
        for row in self.table.scan(path, **bounds):
            seen.append(row)
            if len(seen) <= len(changes) and changes[len(seen) - 1] is not None:
                name, *values = changes[len(seen) - 1]
                getattr(self.table, name)(*values)
        return seen

    def test_a_row_is_returned_twice(self):
        self.assertEqual(self.follow(UP, [("change", 0, (5,))]), [(0, (1,)), (1, (4,)), (0, (5,)), (2, (7,))])

    def test_the_row_that_was_returned_last_moves(self):
        self.assertEqual(self.follow(UP, [("change", 0, (2,)), ("change", 0, (3,))]),
                         [(0, (1,)), (0, (2,)), (0, (3,)), (1, (4,)), (2, (7,))])
        self.setUp()
        self.assertEqual(self.follow(DOWN, [("change", 2, (9,))]), [(2, (7,)), (1, (4,)), (0, (1,))])
        self.setUp()
        self.assertEqual(self.follow(HEAP, [("change", 0, (5,))]), [(0, (1,)), (1, (4,)), (2, (7,))])

    def test_the_row_that_was_returned_last_goes(self):
        for path, numbers in [(HEAP, [0, 1, 2]), (UP, [0, 1, 2]), (DOWN, [2, 1, 0])]:
            self.setUp()
            changes = [("drop", number) for number in numbers]
            self.assertEqual([number for number, _ in self.follow(path, changes)], numbers)
            self.assertEqual(len(self.table), 0)

    def test_a_row_is_passed_over(self):
        self.assertEqual(self.follow(UP, [None, ("change", 2, (3,))]), [(0, (1,)), (1, (4,))])
        self.setUp()
        self.assertEqual(self.follow(DOWN, [None, ("change", 0, (5,))]), [(2, (7,)), (1, (4,))])

    def test_rows_come(self):
        self.assertEqual(self.follow(HEAP, [None, ("put", 0), ("put", 1)]),
                         [(0, (1,)), (1, (4,)), (2, (7,)), (3, (0,)), (4, (1,))])
        self.setUp()
        self.assertEqual(self.follow(UP, [("put", 0), ("put", 5)]), [(0, (1,)), (1, (4,)), (4, (5,)), (2, (7,))])
        self.setUp()
        self.assertEqual(self.follow(UP, [("put", 1)]), [(0, (1,)), (3, (1,)), (1, (4,)), (2, (7,))])
        self.setUp()
        self.assertEqual(self.follow(DOWN, [None, None, ("put", 1)]), [(2, (7,)), (1, (4,)), (0, (1,))])

    def test_rows_go(self):
        self.assertEqual(self.follow(UP, [("drop", 1)]), [(0, (1,)), (2, (7,))])

    def test_rows_change_in_place(self):
        table = LiveTable(((0, (1, 1)), (1, (4, 4))), 2)
        seen = []
        for row in table.scan(UP):
            seen.append(row)
            table.change(1, (4, 9))
        self.assertEqual(seen, [(0, (1, 1)), (1, (4, 9))])

    def test_bounds_are_of_this_moment(self):
        self.assertEqual(self.follow(UP, [("change", 1, (8,)), ("change", 1, (6,))], most=7), [(0, (1,)), (2, (7,))])
        self.setUp()
        self.assertEqual(self.follow(UP, [("change", 2, (5,))], least=1, most=5), [(0, (1,)), (1, (4,)), (2, (5,))])

    def test_the_first_row_is_that_of_the_first_call(self):
        begun = self.table.scan(UP)
        self.table.put(0)
        self.assertEqual(next(begun), (3, (0,)))

    def test_the_end_is_the_end(self):
        begun = self.table.scan(UP, least=7)
        self.assertEqual(list(begun), [(2, (7,))])
        self.table.put(9)
        self.assertEqual(list(begun), [])
        self.assertEqual(self.table.next_row(UP, (7, 2)), (3, (9,)))

    def test_a_row_comes_behind_the_last_one(self):
        begun = self.table.scan(UP)
        seen = [next(begun), next(begun), next(begun)]
        self.table.put(8)
        self.assertEqual(seen + list(begun), [(0, (1,)), (1, (4,)), (2, (7,)), (3, (8,))])

    def test_a_scan_within_a_scan(self):
        seen = []
        for one, _ in self.table.scan(DOWN):
            for other, _ in self.table.scan(HEAP):
                seen.append((one, other))
                if (one, other) == (1, 1):
                    self.table.drop(0)
        self.assertEqual(seen, [(2, 0), (2, 1), (2, 2), (1, 0), (1, 1), (1, 2)])

    def test_against_a_slow_table(self):
        source = random.Random(12)
        for _ in range(150):
            rows = tuple((n, (source.randint(-3, 3), source.randint(-3, 3))) for n in range(source.randint(0, 5)))
            table, slow = LiveTable(rows, len(rows)), SlowTable(rows, len(rows))
            path = source.choice([HEAP, UP, DOWN, ("up", 1), ("down", 1)])
            at = None if path == HEAP else path[1]
            low, high = sorted([source.randint(-4, 4), source.randint(-4, 4)])
            bounds = {} if at is None else {"least": low, "most": high}
            place, seen = None, 0
            for row in table.scan(path, **bounds):
                number, values, place = slow.after(path, at, place, low, high, False)
                self.assertEqual(row, (number, values))
                seen += 1
                if seen > 12:
                    break
                new = (source.randint(-3, 3), source.randint(-3, 3))
                some = source.choice([*slow.rows, None])
                if some is None:
                    slow.rows[table.put(*new)] = new
                elif source.random() < 0.3:
                    table.drop(some)
                    del slow.rows[some]
                else:
                    table.change(some, new)
                    slow.rows[some] = new
            else:
                self.assertIsNone(slow.after(path, at, place, low, high, False))


if __name__ == "__main__":
    unittest.main()
