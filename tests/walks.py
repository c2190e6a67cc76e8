"""Plain enumerations, written apart from the package, to compare it with."""

from functools import lru_cache
from itertools import combinations_with_replacement, permutations, product


def lots_with_steel(most):
    """All lots whose steel is at most the given number."""
    return [lot for total in range(most + 1) for lot in lots_of(total, total)]


def lots_of(total, sharpest):
    """All lots of this steel without a tool above sharpest."""
    if total == 0:
        return [()]
    return [
        (tool, *rest)
        for tool in range(1, min(total, sharpest) + 1)
        for rest in lots_of(total - tool, tool)
    ]


def rows_up_to(length, greatest):
    """All rows of at most this length with needs of at most greatest."""
    rows = [[]]
    newest = [[]]
    for _ in range(length):
        newest = [row + [need] for row in newest for need in range(1, greatest + 1)]
        rows = rows + newest
    return rows


def after(lot, pick):
    """The lot after its tool of sharpness pick has performed a task."""
    if pick == 0:
        return lot
    tools = list(lot)
    tools.remove(pick)
    tools.append(pick - 1)
    return tuple(sorted([tool for tool in tools if tool > 0], reverse=True))


def able(lot, need):
    """The different tools that can perform a task of this need."""
    return sorted({tool for tool in lot if tool >= need})


def all_walks(lot, row):
    """(picks, final lot) of every walk, with skips of every kind."""
    return list(_walks(lot, row, lambda tools: [0] + tools))


def keen_walks(lot, row):
    """The walks that skip a task only if no tool can perform it."""
    return list(_walks(lot, row, lambda tools: tools or [0]))


def full_walks(lot, row):
    """The walks without skips."""
    return list(_walks(lot, row, lambda tools: tools))


def _walks(lot, row, options):
    if not row:
        yield [], lot
        return
    for pick in options(able(lot, row[0])):
        for picks, final in _walks(after(lot, pick), row[1:], options):
            yield [pick] + picks, final


def done(picks):
    """The number of tasks that are performed."""
    return len([pick for pick in picks if pick != 0])


def tasks_of_need(lot, need):
    """How many tasks of this need the lot performs, by performing them."""
    count = 0
    while able(lot, need):
        lot = after(lot, able(lot, need)[0])
        count = count + 1
    return count


def does_cover(first, second):
    """Whether the capacity of first is at least that of second for every need."""
    needs = range(1, max((0, *first, *second)) + 1)
    return all(tasks_of_need(first, need) >= tasks_of_need(second, need) for need in needs)


def heaps_up_to(length, greatest):
    """All heaps of at most this length with needs of at most greatest, each in ascending order."""
    needs = range(1, greatest + 1)
    return [list(heap) for size in range(length + 1) for heap in combinations_with_replacement(needs, size)]


def orders_of(heap):
    """All distinct orders of a heap."""
    return [list(order) for order in sorted(set(permutations(heap)))]


@lru_cache(maxsize=None)
def most_of_row(lot, row):
    """The greatest number of tasks that any walk performs; row is a tuple."""
    if not row:
        return 0
    performed = [1 + most_of_row(after(lot, tool), row[1:]) for tool in able(lot, row[0])]
    return max([most_of_row(lot, row[1:]), *performed])


def can_perform(lot, row):
    """Whether some walk performs the whole row."""
    return most_of_row(tuple(lot), tuple(row)) == len(row)


@lru_cache(maxsize=None)
def _enough(lot, heap, order):
    found = (can_perform(lot, row) for row in orders_of(heap))
    return any(found) if order == "some" else all(found)


def enough(lot, heap, order):
    """Whether the lot can perform the heap in every or in some order, by trying them all."""
    return _enough(tuple(lot), tuple(heap), order)


def overloaded(lot, heap):
    """The greatest need that too many tasks reach, or None."""
    found = [need for need in heap if len([task for task in heap if task >= need]) > tasks_of_need(lot, need)]
    return max(found, default=None)


def sharpened_once(lot):
    """All lots after one step of sharpening."""
    raised = {descending([*lot[:at], lot[at] + 1, *lot[at + 1:]]) for at in range(len(lot))}
    return raised | {(*lot, 1)}


def all_sharpened(lot, steps, cap):
    """All lots after this number of steps, without a tool above cap unless cap is None."""
    lots = {lot}
    for _ in range(steps):
        lots = {more for one in lots for more in sharpened_once(one) if cap is None or more[0] <= cap}
    return lots


def descending(tools):
    return tuple(sorted(tools, reverse=True))


def after_row(lots, row):
    """The lots that some worker can have after the row, without skips, if it has one of these before it."""
    for need in row:
        lots = {after(lot, tool) for lot in lots for tool in able(lot, need)}
    return lots


def after_days(lot, days, steps, cap):
    """For each day the lots that some worker can have at its end, however it chooses tools and spends the steps."""
    found = []
    lots = {lot}
    for day, row in enumerate(days):
        if day > 0:
            lots = {more for one in lots for more in all_sharpened(one, steps, cap)}
        lots = after_row(lots, row)
        found.append(lots)
    return found


def days_up_to(length, rows):
    """All lists of at most this many of the rows, at least one."""
    return [list(days) for many in range(1, length + 1) for days in product(rows, repeat=many)]


def is_smaller_heap(needs, heap):
    """Whether the tasks are some of the heap, each need perhaps lowered, by trying all assignments."""
    choices = permutations(heap, len(needs))
    return any(all(need <= stated for need, stated in zip(needs, choice)) for choice in choices)
