import unittest

from keenlot.errors import InvalidList, InvalidLot, InvalidNumber, MissingTool, TooLarge
from keenlot.lots import capacity, combine, count_from, is_lot, make_lot, remove, steel, top_sum
from tests.walks import lots_with_steel, tasks_of_need

WIDEST = (4,) * 20 + (3,) * 40
SHARPEST = (200,)


class IsLotTest(unittest.TestCase):
    def test_lots(self):
        for value in [(), (1,), (5, 3, 3, 1), (2, 2), SHARPEST, WIDEST, (1,) * 60, (199, 1), (10,) * 20]:
            with self.subTest(value=value):
                self.assertIs(is_lot(value), True)

    def test_beyond_the_limits(self):
        for value in [(1,) * 61, (201,), (200, 1), (100, 100, 1), (4,) * 21 + (3,) * 39, (1,) * 200, (10 ** 99,)]:
            with self.subTest(value=value):
                self.assertIs(is_lot(value), False)

    def test_wrong_order(self):
        for value in [(1, 2), (5, 3, 4), (3, 3, 5)]:
            with self.subTest(value=value):
                self.assertIs(is_lot(value), False)

    def test_any_value(self):
        nested = (1,)
        for _ in range(9):
            nested = (nested,)
        for value in [
            None, True, False, 0, 1, -1, 10 ** 99, "", "abc", [], [1], [5, 3, 3, 1], (0,), (1, 0), (3, -1), (-1,),
            (True,), (2, True), (False,), (None,), (3, None), ("a",), ("3", "1"), (3, "1"), ((3,), (1,)), ((),),
            ([],), ([3],), [(3,)], (3, (1,)), nested, [nested], (-(10 ** 99),),
        ]:
            with self.subTest(value=value):
                self.assertIs(is_lot(value), False)

    def test_by_name(self):
        self.assertIs(is_lot(value=(2, 1)), True)


class MakeLotTest(unittest.TestCase):
    def test_examples(self):
        self.assertEqual(make_lot([1, 5, 0, 3]), (5, 3, 1))
        with self.assertRaises(InvalidList):
            make_lot([1, -1])

    def test_sorts_and_leaves_out_zeros(self):
        self.assertEqual(make_lot([]), ())
        self.assertEqual(make_lot([0]), ())
        self.assertEqual(make_lot([0, 0, 0]), ())
        self.assertEqual(make_lot([3, 1, 3, 5]), (5, 3, 3, 1))
        self.assertEqual(make_lot([1, 0, 2, 0, 1]), (2, 1, 1))
        self.assertEqual(make_lot(values=[1, 2]), (2, 1))

    def test_a_long_list(self):
        self.assertEqual(make_lot([0] * 5000), ())
        self.assertEqual(make_lot([0] * 5000 + [1, 2] * 30), (2,) * 30 + (1,) * 30)

    def test_limits(self):
        self.assertEqual(make_lot([200]), (200,))
        self.assertEqual(make_lot([1] * 60), (1,) * 60)
        self.assertEqual(make_lot([3, 4] * 20 + [3] * 20), WIDEST)
        for values in [[1] * 61, [200, 1], [1, 200], [0, 100, 101], [4] * 21 + [3] * 39, [200] * 5000]:
            with self.subTest(values=values[:5]):
                with self.assertRaises(TooLarge):
                    make_lot(values)

    def test_wrong_values(self):
        for values in [
            [-1], [201], [0, 201], [10 ** 99], [True], [False], [1, True], [None], ["1"], [[1]], [(1,)], [()], [[]],
            (), (1, 2), None, True, 3, "", "12", [1, 2, None],
        ]:
            with self.subTest(values=values):
                with self.assertRaises(InvalidList):
                    make_lot(values)

    def test_form_comes_before_limits(self):
        for values in [[1] * 61 + [-1], [200, 200, 201], [200, 1, True]]:
            with self.subTest(values=values):
                with self.assertRaises(InvalidList):
                    make_lot(values)

    def test_the_list_stays_as_it_was(self):
        values = [1, 5, 0, 3]
        make_lot(values)
        self.assertEqual(values, [1, 5, 0, 3])
        lot = make_lot(values)
        values.append(7)
        self.assertEqual(lot, (5, 3, 1))


class SumsTest(unittest.TestCase):
    def test_steel(self):
        self.assertEqual(steel(()), 0)
        self.assertEqual(steel((5, 3, 3, 1)), 12)
        self.assertEqual(steel(WIDEST), 200)
        self.assertEqual(steel(lot=SHARPEST), 200)

    def test_top_sum(self):
        self.assertEqual(top_sum((5, 3, 3, 1), 2), 8)
        self.assertEqual([top_sum((5, 3, 3, 1), count) for count in range(7)], [0, 5, 8, 11, 12, 12, 12])
        self.assertEqual([top_sum((), count) for count in (0, 1, 200)], [0, 0, 0])
        self.assertEqual([top_sum(WIDEST, count) for count in (0, 1, 59, 60, 61, 200)], [0, 4, 197, 200, 200, 200])
        self.assertEqual(top_sum(count=2, lot=(5, 3, 3, 1)), 8)

    def test_capacity(self):
        self.assertEqual(capacity((5, 3, 3, 1), 3), 5)
        self.assertEqual([capacity((5, 3, 3, 1), need) for need in range(1, 8)], [12, 8, 5, 2, 1, 0, 0])
        self.assertEqual([capacity((), need) for need in (1, 2, 200)], [0, 0, 0])
        self.assertEqual([capacity(SHARPEST, need) for need in (1, 2, 199, 200)], [200, 199, 2, 1])
        self.assertEqual([capacity((199, 1), need) for need in (1, 2, 199, 200)], [200, 198, 1, 0])
        self.assertEqual(capacity(need=3, lot=(5, 3, 3, 1)), 5)

    def test_capacity_is_the_number_of_tasks(self):
        for lot in lots_with_steel(7):
            for need in range(1, 10):
                with self.subTest(lot=lot, need=need):
                    self.assertEqual(capacity(lot, need), tasks_of_need(lot, need))

    def test_count_from(self):
        self.assertEqual([count_from((5, 3, 3, 1), need) for need in range(1, 8)], [4, 3, 3, 1, 1, 0, 0])
        self.assertEqual([count_from((), need) for need in (1, 2, 200)], [0, 0, 0])
        self.assertEqual([count_from(SHARPEST, need) for need in (1, 199, 200)], [1, 1, 1])
        self.assertEqual([count_from(WIDEST, need) for need in (1, 3, 4, 5, 200)], [60, 60, 20, 0, 0])
        self.assertEqual(count_from(need=3, lot=(5, 3, 3, 1)), 3)

    def test_ranges(self):
        for function, low in [(top_sum, 0), (capacity, 1), (count_from, 1)]:
            function((2, 1), low)
            function((2, 1), 200)
            for number in [low - 1, 201, -200, 10 ** 99, True, False, None, "1", (1,), [1]]:
                with self.subTest(function.__name__, number=number):
                    with self.assertRaises(InvalidNumber):
                        function((2, 1), number)


class CombineTest(unittest.TestCase):
    def test_combines(self):
        self.assertEqual(combine((), ()), ())
        self.assertEqual(combine((5, 2), ()), (5, 2))
        self.assertEqual(combine((), (5, 2)), (5, 2))
        self.assertEqual(combine((5, 2), (6, 3, 2, 1)), (6, 5, 3, 2, 2, 1))
        self.assertEqual(combine(second=(3,), first=(5, 2)), (5, 3, 2))

    def test_limits(self):
        self.assertEqual(combine((1,) * 30, (1,) * 30), (1,) * 60)
        self.assertEqual(combine((100,), (100,)), (100, 100))
        self.assertEqual(combine((1,), (199,)), (199, 1))
        self.assertEqual(combine((3,) * 40, (4,) * 20), WIDEST)
        for first, second in [
            ((1,) * 30, (1,) * 31), ((1,) * 60, (1,)), ((200,), (1,)), ((1,), (200,)), ((101,), (100,)),
            ((3,) * 39, (4,) * 21), (WIDEST, WIDEST),
        ]:
            with self.subTest(first=first, second=second):
                with self.assertRaises(TooLarge):
                    combine(first, second)

    def test_lots_beyond_the_limits_are_no_lots(self):
        for wrong in [(1,) * 61, (200, 1), (1, 2), [2, 1]]:
            with self.subTest(wrong=wrong):
                with self.assertRaises(InvalidLot):
                    combine(wrong, ())
                with self.assertRaises(InvalidLot):
                    combine((200,), wrong)


class RemoveTest(unittest.TestCase):
    def missing(self, lot, tools):
        with self.assertRaises(MissingTool) as caught:
            remove(lot, tools)
        return caught.exception.tool

    def test_removes(self):
        self.assertEqual(remove((5, 3, 3, 1), (3, 1)), (5, 3))
        self.assertEqual(remove((5, 3, 3, 1), ()), (5, 3, 3, 1))
        self.assertEqual(remove((5, 3, 3, 1), (5, 3, 3, 1)), ())
        self.assertEqual(remove((5, 3, 3, 1), (3, 3)), (5, 1))
        self.assertEqual(remove((), ()), ())
        self.assertEqual(remove(tools=(5,), lot=(5, 3, 3, 1)), (3, 3, 1))

    def test_the_greatest_missing_tool(self):
        self.assertEqual(self.missing((5, 3, 3, 1), (5, 4, 2)), 4)
        self.assertEqual(self.missing((5, 3, 3, 1), (4, 2)), 4)
        self.assertEqual(self.missing((5, 3, 3, 1), (6, 4, 2)), 6)
        self.assertEqual(self.missing((5, 3, 3, 1), (5, 5, 2)), 5)
        self.assertEqual(self.missing((5, 3, 3, 1), (3, 3, 3, 1, 1)), 3)
        self.assertEqual(self.missing((5, 3, 3, 1), (5, 3, 3, 1, 1)), 1)
        self.assertEqual(self.missing((), (200,)), 200)
        self.assertEqual(self.missing((2, 1), (2, 1, 1, 1)), 1)

    def test_after_combine(self):
        for first in lots_with_steel(5):
            for second in lots_with_steel(5):
                with self.subTest(first=first, second=second):
                    both = combine(first, second)
                    self.assertTrue(is_lot(both))
                    self.assertEqual(remove(both, second), first)
                    self.assertEqual(remove(both, first), second)
        self.assertEqual(self.missing(combine((4, 2), (4, 3)), (4, 4, 4, 2)), 4)
        self.assertEqual(self.missing(combine((4, 2), (4, 3)), (4, 4, 3, 3, 2, 1)), 3)


if __name__ == "__main__":
    unittest.main()
