import copy
import time
import unittest
from itertools import combinations, product

from keenlot.books import allows, either, failing_row, limit_tasks, merge, reduce_book, serves, steps_for
from keenlot.errors import InvalidBook, InvalidLot, InvalidNumber, InvalidRow, TooLarge
from keenlot.heaps import can_every
from keenlot.lots import combine
from keenlot.sharpening import sharpen
from tests.cases import Case
from tests.kinds import KINDS
from tests.walks import can_perform, enough, heaps_up_to, is_smaller_heap, lots_with_steel, orders_of, rows_up_to

HEAPS = heaps_up_to(3, 3)
BOOKS = [[heap] for heap in HEAPS] + [[one, other[::-1]] for one in HEAPS for other in HEAPS]
BOOKS = BOOKS + [list(heaps) for heaps in combinations(heaps_up_to(2, 3), 3)]
WRONG_BOOKS = KINDS["book"][1]
# none of these heaps makes another one redundant: the longer one has the lower needs
STAIRS = [[at] * (22 - at) for at in range(1, 22)]


def is_redundant(heap, other):
    """Whether other has at least as many needs and each need of heap is at most the one at its place."""
    mine, others = sorted(heap, reverse=True), sorted(other, reverse=True)
    return len(mine) <= len(others) and all(mine[at] <= others[at] for at in range(len(mine)))


def reduced(heaps):
    """The heaps that no other one makes redundant, of equal ones the first."""
    kept = []
    for at, heap in enumerate(heaps):
        others = [other for place, other in enumerate(heaps) if place != at and is_redundant(heap, other)]
        equal_before = [other for other in heaps[:at] if sorted(other) == sorted(heap)]
        if not equal_before and all(sorted(other) == sorted(heap) for other in others):
            kept.append(sorted(heap, reverse=True))
    return sorted(kept)


def steps_by_trying(lot, book):
    steps = 0
    while not all(can_every(sharpen(lot, steps), heap) for heap in book):
        steps = steps + 1
    return steps


class AllowsTest(Case):
    def test_examples(self):
        self.assertIs(allows([[2, 1]], [1, 1]), True)

    def test_some_rows(self):
        for book, row, result in [
            ([[]], [], True), ([[]], [1], False), ([[1]], [], True), ([[2, 1]], [1, 2], True), ([[2, 1]], [2, 1], True),
            ([[1, 2]], [2, 1], True), ([[2, 1]], [2, 2], False), ([[2, 1]], [1, 1, 1], False), ([[2, 1]], [3], False),
            ([[2, 1], [1, 1, 1]], [1, 1, 1], True), ([[2, 1], [1, 1, 1]], [2, 1, 1], False), ([[], [3]], [3], True),
            ([[5, 3, 3, 1]], [3, 1, 3, 5], True), ([[5, 3, 3, 1]], [3, 3, 3], True), ([[5, 3, 3, 1]], [4, 4], False),
            ([[5, 3, 3, 1]], [3, 3, 3, 3], False), ([[200] * 200], [200] * 200, True),
            ([[200] * 199], [1] * 200, False), ([[2, 2]] * 20, [3], False), ([[2, 2]] * 19 + [[3]], [3], True),
        ]:
            with self.subTest(book=book, row=row):
                self.assertIs(allows(book, row), result)
                self.assertIs(allows(row=row, book=book), result)

    def test_against_all_assignments(self):
        rows = rows_up_to(3, 4) + [[1] * 4, [3, 3, 3, 1]]
        for book in BOOKS:
            for row in rows:
                expected = any(is_smaller_heap(row, heap) for heap in book)
                self.assertIs(allows(book, row), expected, (book, row))

    def test_rows_around_a_heap(self):
        for heap in heaps_up_to(4, 4):
            for row in orders_of(heap):
                self.assertTrue(allows([heap], row))
                self.assertFalse(allows([heap], [1] + row))
                self.assertFalse(allows([heap], row + [4]))
                for at in range(len(row)):
                    self.assertFalse(allows([heap], row[:at] + [row[at] + 1] + row[at + 1:]))
                    self.assertTrue(allows([heap], row[:at] + row[at + 1:]))

    def test_the_book_comes_first(self):
        for book in WRONG_BOOKS:
            self.raised(InvalidBook, allows, book, [1])
            self.raised(InvalidBook, allows, book, [0])
        self.raised(InvalidRow, allows, [[1]], [0])


class ServesTest(Case):
    def test_examples(self):
        self.assertEqual([serves((2,), [[1, 1], [2]]), failing_row((2,), [[2, 1], [3]])], [True, [1, 2]])

    def test_some_books(self):
        for lot, book, failing in [
            ((), [[]], None), ((), [[1]], [1]), ((), [[], [1], [2]], [1]), ((), [[], [2], [1]], [2]),
            ((2,), [[1, 1], [2]], None), ((2,), [[2], [2, 1], [3]], [1, 2]), ((2,), [[3], [2, 1]], [3]),
            ((3,), [[2, 1], [1, 1, 1], [3]], None), ((3, 1), [[1, 3, 2], [3, 1]], [1, 2, 3]),
            ((5, 3), [[3, 5], [4, 4, 2], [4, 4, 4, 1]], [1, 4, 4, 4]), ((2,), [[]] * 19 + [[3]], [3]),
            ((200,), [[1] * 200, [1] * 199 + [2]], [1] * 199 + [2]), ((2,), [[2]] * 20, None),
        ]:
            with self.subTest(lot=lot, book=book):
                self.assertEqual(failing_row(lot, book), failing)
                self.assertEqual(failing_row(book=book, lot=lot), failing)
                self.assertIs(serves(lot, book), failing is None)
                self.assertIs(serves(book=book, lot=lot), failing is None)

    def test_against_every_allowed_row(self):
        rows = rows_up_to(3, 3)
        lots = lots_with_steel(5)
        performed = {lot: [can_perform(lot, row) for row in rows] for lot in lots}
        for book in BOOKS[::3]:
            allowed = [any(is_smaller_heap(row, heap) for heap in book) for row in rows]
            for lot in lots:
                expected = all(good for good, can_arrive in zip(performed[lot], allowed) if can_arrive)
                self.assertIs(serves(lot, book), expected, (lot, book))

    def test_the_first_heap_that_fails(self):
        for lot in lots_with_steel(4):
            for book in BOOKS:
                failing = [sorted(heap) for heap in book if not enough(lot, heap, "every")]
                self.assertEqual(failing_row(lot, book), failing[0] if failing else None, (lot, book))
                self.assertIs(serves(lot, book), not failing)

    def test_the_failing_row_is_allowed_and_fails(self):
        for lot in lots_with_steel(4):
            for book in BOOKS[::2]:
                row = failing_row(lot, book)
                if row is not None:
                    self.assertTrue(allows(book, row))
                    self.assertFalse(can_perform(lot, row), (lot, book))

    def test_the_failing_row_is_a_list_of_its_own(self):
        book = [[1, 2], [3]]
        row = failing_row((2,), book)
        row.append(9)
        self.assertEqual(book, [[1, 2], [3]])
        self.assertEqual(failing_row((2,), book), [1, 2])

    def test_the_lot_comes_first(self):
        for function in (serves, failing_row, steps_for):
            for book in WRONG_BOOKS:
                self.raised(InvalidBook, function, (2,), book)
                self.raised(InvalidLot, function, (1, 2), book)
            self.raised(InvalidLot, function, [2], [[1]])


class ReduceTest(Case):
    def test_some_books(self):
        for book, result in [
            ([[]], [[]]), ([[], []], [[]]), ([[], [1]], [[1]]), ([[1], []], [[1]]), ([[1, 2]], [[2, 1]]),
            ([[1, 2], [2, 1]], [[2, 1]]), ([[3], [1, 2]], [[2, 1], [3]]), ([[2], [2, 1]], [[2, 1]]),
            ([[2], [3]], [[3]]), ([[2, 2], [3, 1]], [[2, 2], [3, 1]]), ([[1, 1, 1], [2], [1, 1]], [[1, 1, 1], [2]]),
            # chains, by length, by needs and by both
            ([[1], [1, 1], [1, 1, 1]], [[1, 1, 1]]), ([[1], [2], [3], [4]], [[4]]),
            ([[1], [2], [1, 2], [3, 2]], [[3, 2]]), ([[3, 2], [1, 2], [2], [1]], [[3, 2]]),
            ([[2], [5], [1, 5], [4, 1, 1], [1, 1, 5], [3]], [[5, 1, 1]]),
            ([[5, 1], [1, 4, 4], [1, 4], [3, 1, 4], [5]], [[4, 4, 1], [5, 1]]), ([[7, 8]] * 20, [[8, 7]]),
            (STAIRS[:20], STAIRS[:20]), (STAIRS[19::-1], STAIRS[:20]), ([[1] * 200, [200]], [[1] * 200, [200]]),
        ]:
            with self.subTest(book=book):
                self.assertEqual(reduce_book(book), result)
                self.assertEqual(reduce_book(book=[heap[::-1] for heap in book[::-1]]), result)
                self.assertEqual(reduce_book(result), result)

    def test_against_comparing_all_pairs(self):
        for book in BOOKS:
            result = reduce_book(book)
            self.assertEqual(result, reduced(book), book)
            for heap in book:
                self.assertTrue(any(is_redundant(heap, other) for other in result), book)
            for heap, other in product(range(len(result)), repeat=2):
                self.assertTrue(heap == other or not is_redundant(result[heap], result[other]), book)

    def test_the_reduced_book_allows_the_same_rows(self):
        rows = rows_up_to(3, 3)
        for book in BOOKS[::4]:
            small = reduce_book(book)
            for row in rows:
                self.assertIs(allows(small, row), allows(book, row), (book, row))

    def test_results_are_new_lists(self):
        for function, arguments in [
            (reduce_book, [[[2, 1], [3]]]), (reduce_book, [[[]]]), (either, [[[2, 1]], [[3]]]),
            (merge, [[[2, 1]], [[]]]), (merge, [[[]], [[3], [2, 1]]]), (limit_tasks, [[[2, 1], [3]], 2]),
            (limit_tasks, [[[2, 1], [3]], 200]),
            (either, [[[]], [[]]]), (either, [[[1]], [[1]]]), (limit_tasks, [[[1]], 0]),
        ]:
            with self.subTest(function.__name__, arguments=arguments):
                given = copy.deepcopy(arguments)
                first = function(*given)
                kept = copy.deepcopy(first)
                own = {id(part) for part in [first, *first]}
                self.assertEqual(len(own), 1 + len(first))
                parts = [part for book in given if isinstance(book, list) for part in [book, *book]]
                self.assertEqual(own & {id(part) for part in parts}, set())
                for heap in first:
                    heap.append(7)
                first.append([9])
                self.assertEqual(given, arguments)
                self.assertEqual(function(*given), kept)

    def test_wrong_books(self):
        for book in WRONG_BOOKS:
            self.raised(InvalidBook, reduce_book, book)
            self.raised(InvalidBook, either, book, [[1]])
            self.raised(InvalidBook, either, [[1]], book)
            self.raised(InvalidBook, merge, book, [[1]])
            self.raised(InvalidBook, merge, [[1]], book)
            self.raised(InvalidBook, limit_tasks, book, 1)
            self.raised(InvalidBook, limit_tasks, book, -1)
        self.raised(InvalidNumber, limit_tasks, [[1]], -1)


class EitherTest(Case):
    def test_some_books(self):
        for first, second, result in [
            ([[]], [[]], [[]]), ([[1]], [[2]], [[2]]), ([[1, 1]], [[2]], [[1, 1], [2]]), ([[1, 2]], [[2, 1]], [[2, 1]]),
            ([[3], [1]], [[1, 2], []], [[2, 1], [3]]), ([[2]] * 20, [[2], [1]] * 10, [[2]]),
        ]:
            with self.subTest(first=first, second=second):
                self.assertEqual(either(first, second), result)
                self.assertEqual(either(second=first, first=second), result)

    def test_against_comparing_all_pairs(self):
        for first in BOOKS[::9]:
            for second in BOOKS[::5]:
                self.assertEqual(either(first, second), reduced(first + second), (first, second))

    def test_20_and_21_heaps(self):
        self.assertEqual(either(STAIRS[:10], STAIRS[10:20]), STAIRS[:20])
        self.raised(TooLarge, either, STAIRS[:10], STAIRS[10:21])
        self.raised(TooLarge, either, STAIRS[1:21], STAIRS[:1])
        # more before the reduction
        self.assertEqual(either(STAIRS[:20], STAIRS[:20]), STAIRS[:20])
        self.assertEqual(either(STAIRS[:20], [heap[1:] for heap in STAIRS[:20]]), STAIRS[:20])
        self.assertEqual(either(STAIRS[1:21], [[1], [2], [], [3, 3], [21]]), STAIRS[1:21])
        self.assertEqual(either(STAIRS[1:21], [[21] * 30]), [[21] * 30])
        self.raised(TooLarge, either, STAIRS[1:21], [[1] * 21, [1], [2]])


class MergeTest(Case):
    def test_examples(self):
        self.assertEqual(merge([[2], [1, 1]], [[1]]), [[1, 1, 1], [2, 1]])

    def test_some_books(self):
        for first, second, result in [
            ([[]], [[]], [[]]), ([[]], [[1], [2]], [[2]]), ([[1, 3]], [[2]], [[3, 2, 1]]),
            ([[2], [1, 1]], [[2], [1, 1]], [[1, 1, 1, 1], [2, 1, 1], [2, 2]]),
            ([[2]] * 20, [[1]] * 20, [[2, 1]]), ([[2], []], [[1, 1], []], [[2, 1, 1]]),
        ]:
            with self.subTest(first=first, second=second):
                self.assertEqual(merge(first, second), result)
                self.assertEqual(merge(second=first, first=second), result)

    def test_against_comparing_all_pairs(self):
        for first in BOOKS[::9]:
            for second in BOOKS[::5]:
                pairs = [one + other for one in first for other in second]
                self.assertEqual(merge(first, second), reduced(pairs), (first, second))

    def test_200_and_201_tasks(self):
        self.assertEqual(merge([[1] * 100], [[2] * 100]), [[2] * 100 + [1] * 100])
        self.raised(TooLarge, merge, [[1] * 100], [[2] * 101])
        self.assertEqual(merge([[1] * 200], [[]]), [[1] * 200])
        self.raised(TooLarge, merge, [[1] * 200], [[], [1]])
        self.raised(TooLarge, merge, [[5], [1] * 200], [[1], []])
        # a single pair decides, wherever it stands
        for at in range(3):
            first = [[3], [2, 2], [1] * 150]
            second = [[], [1], [1] * 51]
            self.raised(TooLarge, merge, first[at:] + first[:at], second)
            self.raised(TooLarge, merge, second, first[at:] + first[:at])
            self.assertEqual(merge(first, [[1] * 50]), reduced([heap + [1] * 50 for heap in first]))

    def test_20_and_21_heaps(self):
        self.assertEqual(merge(STAIRS[:20], [[1]]), [heap + [1] for heap in STAIRS[:20]])
        self.assertEqual(merge(STAIRS[:20], [[1]] * 20), [heap + [1] for heap in STAIRS[:20]])
        self.assertEqual(merge(STAIRS[:20], [[30], [29], []]), reduced([[30, *heap] for heap in STAIRS[:20]]))
        self.raised(TooLarge, merge, STAIRS[:20], [[100], [99] * 30])
        self.raised(TooLarge, merge, STAIRS[:20], STAIRS[:20])
        wide = [[10 + at] * (10 - at) for at in range(10)]
        self.assertEqual(len(merge(wide, [[50], [40, 40]])), 20)
        self.raised(TooLarge, merge, wide + [[9] * 11], [[50], [40, 40]])

    def test_fast(self):
        long = [[10 * at + 1] * (100 - 5 * at) for at in range(20)]
        started = time.perf_counter()
        self.assertEqual(len(merge(long, [[1] * 100] * 20)), 20)
        self.raised(TooLarge, merge, long, long)
        self.assertLess(time.perf_counter() - started, 10)


class LimitTasksTest(Case):
    def test_examples(self):
        self.assertEqual(limit_tasks([[1, 3, 2], [2, 2]], 2), [[3, 2]])

    def test_some_books(self):
        for book, count, result in [
            ([[1, 3, 2], [2, 2]], 0, [[]]), ([[]], 0, [[]]), ([[]], 5, [[]]), ([[1]] * 20, 0, [[]]),
            ([[1, 3, 2], [2, 2]], 1, [[3]]), ([[1, 3, 2], [2, 2]], 3, [[3, 2, 1]]),
            ([[1, 3, 2], [2, 2, 2]], 3, [[2, 2, 2], [3, 2, 1]]), ([[1, 3, 2], [2, 2, 2]], 200, [[2, 2, 2], [3, 2, 1]]),
            ([[1] * 200, [5]], 200, [[1] * 200, [5]]), ([[1] * 200, [5]], 1, [[5]]), (STAIRS[:20], 1, [[20]]),
            (STAIRS[:20], 21, STAIRS[:20]), (STAIRS[:20], 3, [[19] * 3, [20] * 2]),
        ]:
            with self.subTest(book=book, count=count):
                self.assertEqual(limit_tasks(book, count), result)
                self.assertEqual(limit_tasks(count=count, book=[heap[::-1] for heap in book]), result)

    def test_against_comparing_all_pairs(self):
        for book in BOOKS:
            for count in range(5):
                greatest = [sorted(heap, reverse=True)[:count] for heap in book]
                self.assertEqual(limit_tasks(book, count), reduced(greatest), (book, count))


class StepsForTest(Case):
    def test_some_books(self):
        for lot, book, steps in [
            ((), [[]], 0), ((), [[1]], 1), ((2,), [[1, 1], [2]], 0), ((2,), [[2, 1]], 1), ((2,), [[2, 1], [4], [1]], 2),
            ((2,), [[4], [2, 1], [1]], 2), ((), [[200] * 200], 399), ((200,), [[200] * 200, [1]], 199),
            ((), [[1] * 200, list(range(1, 201))], 399), ((1,) * 60, [[1] * 60, [61]], 60), ((3, 1), [[1, 3, 2]], 1),
            ((5, 3), [[3, 5], [4, 4, 2]], 0), ((), [[2] * 200], 201), ((), [[at] for at in range(1, 21)], 20),
        ]:
            with self.subTest(lot=lot, book=book):
                self.assertEqual(steps_for(lot, book), steps)
                self.assertEqual(steps_for(book=book[::-1], lot=lot), steps)

    def test_against_trying_the_numbers(self):
        for lot in lots_with_steel(4):
            for book in BOOKS:
                self.assertEqual(steps_for(lot, book), steps_by_trying(lot, book), (lot, book))


class TwoBooksTest(Case):
    """Point [36], for small lots and books."""

    BOOKS = [[heap] for heap in HEAPS[::2]] + [[[2, 1], [3]], [[1, 1, 1], [2]], [[2, 2], [3, 1]], [[], [1]]]

    def test_either(self):
        for lot in lots_with_steel(6):
            for first in self.BOOKS:
                for second in self.BOOKS:
                    both = serves(lot, first) and serves(lot, second)
                    self.assertIs(serves(lot, either(first, second)), both, (lot, first, second))

    def test_merge(self):
        for book in self.BOOKS:
            for other in self.BOOKS:
                merged = merge(book, other)
                for lot in [lot for lot in lots_with_steel(5) if serves(lot, book)]:
                    for second in [second for second in lots_with_steel(5) if serves(second, other)]:
                        self.assertTrue(serves(combine(lot, second), merged), (lot, second, book, other))


if __name__ == "__main__":
    unittest.main()
