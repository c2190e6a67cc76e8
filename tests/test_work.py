import unittest

from keenlot.errors import CannotDo, InvalidNumber, InvalidOption, InvalidPicks
from keenlot.lots import capacity, is_lot, steel
from keenlot.work import choices, loss, regret, serve, use, walk, work
from tests.cases import Case
from tests.walks import after, all_walks, done, full_walks, lots_with_steel, rows_up_to


class ChoicesTest(Case):
    def test_choices(self):
        self.assertEqual(choices((5, 3, 3, 1), 2), [5, 3])
        self.assertEqual(choices((5, 3, 3, 1), 1), [5, 3, 1])
        self.assertEqual(choices((5, 3, 3, 1), 3), [5, 3])
        self.assertEqual(choices((5, 3, 3, 1), 4), [5])
        self.assertEqual(choices((5, 5, 3, 3, 1, 1), 1), [5, 3, 1])
        self.assertEqual(choices((5, 3), 6), [])
        self.assertEqual(choices((), 1), [])
        self.assertEqual(choices((200,), 200), [200])
        self.assertEqual(choices((1,) * 60, 1), [1])
        self.assertEqual(choices(need=2, lot=(5, 3, 3, 1)), [5, 3])

    def test_a_changed_result_changes_no_later_one(self):
        choices((5, 3), 2).append(9)
        self.assertEqual(choices((5, 3), 2), [5, 3])


class UseTest(Case):
    def test_use(self):
        self.assertEqual(use((3, 3), 3, 2), (3, 2))
        self.assertEqual(use((5, 3, 3, 1), 3, 1), (5, 3, 2, 1))
        self.assertEqual(use((5, 3, 3, 1), 5, 5), (4, 3, 3, 1))
        self.assertEqual(use((4, 3), 4, 1), (3, 3))
        self.assertEqual(use((2, 1), 1, 1), (2,))
        self.assertEqual(use((1,), 1, 1), ())
        self.assertEqual(use((1, 1), 1, 1), (1,))
        self.assertEqual(use((200,), 200, 200), (199,))
        self.assertEqual(use((1,) * 60, 1, 1), (1,) * 59)
        self.assertEqual(use(need=2, tool=3, lot=(3, 3)), (3, 2))

    def test_performing_lowers_one_tool_by_one(self):
        for lot in lots_with_steel(8):
            for tool in choices(lot, 1):
                with self.subTest(lot=lot, tool=tool):
                    left = use(lot, tool, tool)
                    self.assertEqual(left, after(lot, tool))
                    self.assertTrue(is_lot(left))
                    self.assertEqual(steel(left), steel(lot) - 1)

    def test_missing_tool(self):
        self.assertEqual(self.missing(use, (5, 3), 4, 2), 4)
        self.assertEqual(self.missing(use, (5, 3), 6, 2), 6)
        self.assertEqual(self.missing(use, (), 1, 1), 1)
        self.assertEqual(self.missing(use, (5, 3), 200, 200), 200)

    def test_missing_tool_comes_before_too_dull(self):
        self.assertEqual(self.missing(use, (5, 3), 2, 4), 2)

    def test_too_dull(self):
        self.assertEqual(self.cannot(use, (5, 3), 3, 4), (0, (5, 3), None))
        self.assertEqual(self.cannot(use, (5, 3, 1), 1, 2), (0, (5, 3, 1), None))
        self.assertEqual(self.cannot(use, (2,), 2, 200), (0, (2,), None))


class WalkTest(Case):
    def wrong_at(self, *arguments):
        return self.raised(InvalidPicks, walk, *arguments).index

    def test_walk(self):
        self.assertEqual(walk((3, 1), [1, 3], [3, 0]), (2, 1))
        self.assertEqual(walk((3, 1), [], []), (3, 1))
        self.assertEqual(walk((), [], []), ())
        self.assertEqual(walk((3, 1), [1, 1, 1], [0, 0, 0]), (3, 1))
        self.assertEqual(walk((3, 1), [9, 1, 200], [0, 1, 0]), (3,))
        self.assertEqual(walk((3, 1), [1, 1, 1, 1], [3, 2, 1, 1]), ())
        self.assertEqual(walk((), [1, 200], [0, 0]), ())
        self.assertEqual(walk((200,), [1] * 200, list(range(200, 0, -1))), ())
        self.assertEqual(walk(picks=[3, 0], row=[1, 3], lot=(3, 1)), (2, 1))

    def test_every_walk(self):
        for lot in lots_with_steel(5):
            for row in rows_up_to(3, 3):
                for picks, final in all_walks(lot, row):
                    self.assertEqual(walk(lot, row, picks), final)

    def test_only_walks_are_followed(self):
        for lot in lots_with_steel(4):
            for row in rows_up_to(2, 3):
                known = [picks for picks, _ in all_walks(lot, row)]
                tried = [[]]
                for _ in row:
                    tried = [picks + [pick] for picks in tried for pick in range(-1, 6)]
                for picks in tried:
                    if picks not in known:
                        with self.assertRaises(InvalidPicks):
                            walk(lot, row, picks)

    def test_the_first_wrong_pick(self):
        self.assertEqual(self.wrong_at((3, 1), [1, 3], [3, 3]), 1)
        # no such tool
        self.assertEqual(self.wrong_at((3, 1), [1, 1], [2, 1]), 0)
        self.assertEqual(self.wrong_at((), [1], [1]), 0)
        # no such tool any more
        self.assertEqual(self.wrong_at((3, 1), [1, 1, 1], [1, 3, 1]), 2)
        # a tool that is too dull
        self.assertEqual(self.wrong_at((3, 1), [2, 1], [1, 1]), 0)
        self.assertEqual(self.wrong_at((3, 1), [1, 3, 3], [0, 3, 2]), 2)
        # numbers that are no tool at all
        self.assertEqual(self.wrong_at((3, 1), [1, 1], [3, -1]), 1)
        self.assertEqual(self.wrong_at((3, 1), [1, 1], [0, 201]), 1)
        self.assertEqual(self.wrong_at((3, 1), [1, 1], [0, 10 ** 99]), 1)
        self.assertEqual(self.wrong_at((3, 1), [1, 1], [-(10 ** 99), 201]), 0)

    def test_picks_of_the_wrong_form(self):
        for picks in [
            None, True, 0, 3, 10 ** 99, "", "30", (), (3, 0), [], [3], [3, 0, 0], [0] * 201, [True, 0], [3, False],
            [3, True], [None, 0], [3, None], ["3", 0], [3, [0]], [[3, 0]], [(3, 0)], [(3,), (0,)], [3, ""], [[], []],
        ]:
            with self.subTest(picks=picks):
                self.assertIsNone(self.wrong_at((3, 1), [1, 3], picks))
        self.assertIsNone(self.wrong_at((3, 1), [], None))
        self.assertIsNone(self.wrong_at((3, 1), [], [0]))
        self.assertIsNone(self.wrong_at((3, 1), [], ()))

    def test_the_form_comes_before_the_first_wrong_pick(self):
        self.assertIsNone(self.wrong_at((3, 1), [1, 1], [2, None]))
        self.assertIsNone(self.wrong_at((3, 1), [1, 1], [-1, True]))
        self.assertIsNone(self.wrong_at((3, 1), [1, 1], [2]))


class WorkTest(Case):
    def test_examples(self):
        self.assertEqual(work((3, 1), [1, 3, 2]), ([1, 3, 2], (1,)))
        self.assertEqual(self.cannot(work, (3, 1), [1, 3], by="sharpest"), (1, (2, 1), None))
        self.assertEqual(serve((2, 1), [1, 2, 2]), ([1, 2, 0], (1,)))

    def test_dullest(self):
        for function in (work, serve):
            for named in ({}, {"by": "dullest"}):
                with self.subTest(function.__name__, named=named):
                    self.assertEqual(function((5, 3, 3, 1), [2, 1, 2, 4], **named), ([3, 1, 2, 5], (4, 3, 1)))
                    self.assertEqual(function((3, 1), [], **named), ([], (3, 1)))
                    self.assertEqual(function((), [], **named), ([], ()))
                    self.assertEqual(function((200,), [200], **named), ([200], (199,)))
                    self.assertEqual(function((1,) * 60, [1] * 60, **named), ([1] * 60, ()))

    def test_sharpest(self):
        for function in (work, serve):
            with self.subTest(function.__name__):
                self.assertEqual(function((5, 3, 3, 1), [2, 1, 2, 3], by="sharpest"), ([5, 4, 3, 3], (3, 2, 2, 1)))
                self.assertEqual(function((3, 1), [], by="sharpest"), ([], (3, 1)))
                self.assertEqual(function((2, 1), [1, 1, 1], by="sharpest"), ([2, 1, 1], ()))

    def test_200_tasks(self):
        picks = list(range(200, 0, -1))
        for by in ("dullest", "sharpest"):
            self.assertEqual(work((200,), [1] * 200, by=by), (picks, ()))
            self.assertEqual(serve((200,), [1] * 200, by=by), (picks, ()))
            self.assertEqual(serve((), [200] * 200, by=by), ([0] * 200, ()))

    def test_a_task_that_no_tool_can_perform(self):
        # at the start, in the middle, at the end
        self.assertEqual(self.cannot(work, (3, 1), [4, 1]), (0, (3, 1), None))
        self.assertEqual(self.cannot(work, (3, 1), [2, 3, 1]), (1, (2, 1), None))
        self.assertEqual(self.cannot(work, (3, 1), [1, 3, 2, 2]), (3, (1,), None))
        self.assertEqual(self.cannot(work, (3, 1), [4, 1], by="sharpest"), (0, (3, 1), None))
        self.assertEqual(self.cannot(work, (4, 3), [1, 4, 1], by="sharpest"), (1, (3, 3), None))
        self.assertEqual(self.cannot(work, (3, 2), [1, 1, 2, 2], by="sharpest"), (3, (1, 1), None))
        self.assertEqual(self.cannot(work, (), [1]), (0, (), None))
        self.assertEqual(self.cannot(work, (1,), [1, 1]), (1, (), None))
        self.assertEqual(self.cannot(work, (199, 1), [200]), (0, (199, 1), None))

    def test_the_first_of_several_such_tasks(self):
        self.assertEqual(self.cannot(work, (3, 1), [1, 4, 9, 5]), (1, (3,), None))

    def test_skips(self):
        self.assertEqual(serve((3, 1), [4, 1]), ([0, 1], (3,)))
        self.assertEqual(serve((3, 1), [2, 3, 1]), ([3, 0, 1], (2,)))
        self.assertEqual(serve((3, 1), [1, 3, 2, 2]), ([1, 3, 2, 0], (1,)))
        self.assertEqual(serve((3, 1), [4, 1], by="sharpest"), ([0, 3], (2, 1)))
        self.assertEqual(serve((4, 3), [1, 4, 1], by="sharpest"), ([4, 0, 3], (3, 2)))
        self.assertEqual(serve((3, 2), [1, 1, 2, 2], by="sharpest"), ([3, 2, 2, 0], (1, 1)))
        self.assertEqual(serve((), [1, 200]), ([0, 0], ()))
        self.assertEqual(serve((2, 1), [3, 1, 3, 2, 3, 1, 1]), ([0, 1, 0, 2, 0, 1, 0], ()))

    def test_any_other_rule(self):
        for by in [
            None, True, False, 0, 1, 10 ** 99, "", "Dullest", "dull", "dullest ", "any", "sharpestdullest", (), [],
            ("dullest",), ["dullest"], ("dullest", "sharpest"), [["sharpest"]], ((None,),),
        ]:
            for function in (work, serve):
                with self.subTest(function.__name__, by=by):
                    self.raised(InvalidOption, function, (3, 1), [1], by=by)
                    # before the task that cannot be performed
                    self.raised(InvalidOption, function, (3, 1), [4], by=by)

    def test_the_rule_is_passed_by_name_only(self):
        for function in (work, serve):
            with self.assertRaises(TypeError):
                function((3, 1), [1], "dullest")

    def test_by_name(self):
        self.assertEqual(work(by="sharpest", row=[1, 1], lot=(3, 1)), ([3, 2], (1, 1)))
        self.assertEqual(serve(row=[1, 9], lot=(3, 1)), ([1, 0], (3,)))

    def test_results_are_walks(self):
        for lot in lots_with_steel(6):
            for row in rows_up_to(3, 4):
                for by in ("dullest", "sharpest"):
                    picks, final = serve(lot, row, by=by)
                    self.assertEqual(walk(lot, row, picks), final)
                    if 0 not in picks:
                        self.assertEqual(work(lot, row, by=by), (picks, final))

    def test_results_belong_to_the_caller(self):
        for function in (work, serve):
            row = [1, 3, 2]
            picks, _ = function((3, 1), row)
            self.assertEqual(row, [1, 3, 2])
            picks.append(9)
            row.append(1)
            self.assertEqual(picks, [1, 3, 2, 9])
            self.assertEqual(function((3, 1), [1, 3, 2]), ([1, 3, 2], (1,)))

    def test_the_lot_of_the_error_is_kept_apart(self):
        row = [1, 4]
        error = self.raised(CannotDo, work, (3, 1), row)
        row.clear()
        self.assertEqual((error.index, error.lot), (1, (3,)))


class LossTest(Case):
    def test_examples(self):
        found = [loss((4, 2), 1, 4), regret((4, 2), 1, 4), loss((4, 2), 1, 2)]
        self.assertEqual(found, [(3, 4), [1, 3, 3], None])

    def test_the_dullest_suitable_tool(self):
        for lot, need, tool in [((4, 2), 1, 2), ((4, 2), 3, 4), ((5, 3, 3, 1), 2, 3), ((1,), 1, 1), ((200,), 1, 200)]:
            with self.subTest(lot=lot, need=need):
                self.assertIsNone(loss(lot, need, tool))
                self.assertIsNone(regret(lot, need, tool))

    def test_other_suitable_tools(self):
        self.assertEqual(loss((5, 3, 3, 1), 1, 3), (2, 3))
        self.assertEqual(loss((5, 3, 3, 1), 1, 5), (2, 5))
        self.assertEqual(loss((5, 3, 3, 1), 2, 5), (4, 5))
        self.assertEqual(loss((3, 2), 2, 3), (3, 3))
        self.assertEqual(loss((199, 1), 1, 199), (2, 199))
        self.assertEqual(regret((5, 3, 3, 1), 1, 3), [1] + [2] * 8)
        self.assertEqual(regret((5, 3, 3, 1), 2, 5), [2, 4, 4])
        self.assertEqual(regret((3, 2), 2, 3), [2, 3])
        self.assertEqual(regret((199, 1), 1, 199), [1] + [2] * 198)
        self.assertEqual(loss(tool=4, need=1, lot=(4, 2)), (3, 4))
        self.assertEqual(regret(tool=4, need=1, lot=(4, 2)), [1, 3, 3])

    def test_errors_of_use(self):
        for function in (loss, regret):
            with self.subTest(function.__name__):
                self.assertEqual(self.missing(function, (5, 3), 2, 4), 4)
                self.assertEqual(self.missing(function, (), 1, 1), 1)
                self.assertEqual(self.missing(function, (5, 3), 4, 2), 2)
                self.assertEqual(self.cannot(function, (5, 3), 4, 3), (0, (5, 3), None))
                self.assertEqual(self.cannot(function, (5, 3, 1), 6, 5), (0, (5, 3, 1), None))
                self.raised(InvalidNumber, function, (5, 3), 201, 4)
                self.raised(InvalidNumber, function, (5, 3), 4, 0)

    def test_loss_tells_the_capacities(self):
        for lot in lots_with_steel(9):
            for need in range(1, 7):
                suitable = choices(lot, need)
                for tool in suitable[:-1]:
                    low, high = loss(lot, need, tool)
                    best, other = use(lot, suitable[-1], need), use(lot, tool, need)
                    for asked in range(1, 12):
                        lost = 1 if low <= asked <= high else 0
                        self.assertEqual(capacity(best, asked) - lost, capacity(other, asked))

    def test_regret_is_performed_by_work_only(self):
        for lot in lots_with_steel(7):
            for need in range(1, 5):
                suitable = choices(lot, need)
                for tool in suitable[:-1]:
                    with self.subTest(lot=lot, need=need, tool=tool):
                        row = regret(lot, need, tool)
                        self.assertEqual(row[0], need)
                        self.assertEqual(row[1:], [suitable[-1] + 1] * (len(row) - 1))
                        picks, _ = work(lot, row)
                        self.assertEqual(done(picks), len(row))
                        self.assertNotIn(tool, [found[0] for found, _ in full_walks(lot, row)])
                        # one task more would be too many
                        self.cannot(work, lot, row + [suitable[-1] + 1])

    def test_a_changed_result_changes_no_later_one(self):
        regret((4, 2), 1, 4).clear()
        self.assertEqual(regret((4, 2), 1, 4), [1, 3, 3])


if __name__ == "__main__":
    unittest.main()
