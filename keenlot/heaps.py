"""Heaps: tasks that are known, but not their order."""

from keenlot.checks import MOST_NUMBER, check_lot, check_row, is_list_between
from keenlot.errors import Impossible, TooLarge
from keenlot.lots import capacity_of
from keenlot.work import serve, work

MOST_ORDERED_TASKS = 7


def can_some(lot, heap):
    """Return whether the heap can be performed in some order."""
    check_lot(lot)
    check_row(heap)
    return is_enough(lot, heap, "some")


def can_every(lot, heap):
    """Return whether the heap can be performed in every order."""
    check_lot(lot)
    check_row(heap)
    return is_enough(lot, heap, "every")


def blocks(lot, heap):
    """Return the block plan in which the sharpest tools take as many of the greatest needs as they can."""
    check_lot(lot)
    check_row(heap)
    plan, need = _fill_blocks(lot, heap)
    if need is not None:
        raise Impossible(need)
    return plan


def is_plan(lot, heap, value):
    """Return whether value, any value, is a block plan."""
    check_lot(lot)
    check_row(heap)
    if not isinstance(value, list) or len(value) != len(lot):
        return False
    if not all(is_list_between(needs, 1, MOST_NUMBER) for needs in value):
        return False
    if sorted([need for needs in value for need in needs]) != sorted(heap):
        return False
    return all([_fits_block(tool, needs) for tool, needs in zip(lot, value)])


def best_left(lot, heap):
    """Return the final lot of work for the descending order."""
    check_lot(lot)
    check_row(heap)
    check_enough(lot, heap, "some")
    return work(lot, sorted(heap, reverse=True))[1]


def worst_left(lot, heap):
    """Return the final lot of work for the ascending order."""
    check_lot(lot)
    check_row(heap)
    check_enough(lot, heap, "every")
    return work(lot, sorted(heap))[1]


def most_done(lot, heap):
    """Return the greatest number of tasks that any walk performs in any order."""
    check_lot(lot)
    check_row(heap)
    # Of equal needs the first one has exactly the lower needs before it, and the least bound.
    bounds = [capacity_of(lot, need) + below for below, need in enumerate(sorted(heap))]
    return min([len(heap), *bounds])


def fewest_done(lot, heap):
    """Return the least number of tasks that serve performs in any order."""
    check_lot(lot)
    check_row(heap)
    picks, _ = serve(lot, sorted(heap))
    return len([pick for pick in picks if pick > 0])


def count_orders(heap):
    """Return the number of distinct orders of the heap."""
    check_row(heap)
    _check_few(heap)
    orders = 1
    ascending = sorted(heap)
    for index, need in enumerate(ascending):
        # A further task has this many places; those beside its equals give the same orders again.
        orders = orders * (index + 1) // ascending[:index + 1].count(need)
    return orders


def count_good_orders(lot, heap):
    """Return the number of distinct orders of the heap that work performs."""
    check_lot(lot)
    check_row(heap)
    _check_few(heap)
    orders_to = {(lot, tuple(sorted(heap))): 1}
    for _ in heap:
        orders_to = _orders_after_task(orders_to)
    return sum(orders_to.values())


def is_enough(tools, heap, order):
    """Return whether the tools can perform the heap in every or in some order, as order says.

    The tools are in non-increasing order, and may be beyond the limits of a lot.
    """
    return _lacking_need(tools, heap, order) is None


def check_enough(tools, heap, order):
    """Raise Impossible with the need that the tools fail at unless is_enough holds."""
    need = _lacking_need(tools, heap, order)
    if need is not None:
        raise Impossible(need)


def _lacking_need(tools, heap, order):
    if order == "some":
        return _need_beyond_capacity(tools, heap)
    _, need = _fill_blocks(tools, heap)
    return need


def _need_beyond_capacity(tools, heap):
    # Of equal needs the last one counts all tasks of this need or more.
    for many, need in enumerate(sorted(heap, reverse=True), start=1):
        if many > capacity_of(tools, need):
            return need
    return None


def _fill_blocks(tools, heap):
    """Return (plan, None), or (unfinished plan, greatest remaining need) if there is no plan."""
    plan = []
    left = sorted(heap, reverse=True)
    for tool in tools:
        if left and left[0] > tool:
            return plan, left[0]
        size = tool - left[0] + 1 if left else 0
        plan.append(left[:size])
        left = left[size:]
    return plan, (left[0] if left else None)


def _fits_block(tool, needs):
    return not needs or tool >= max(needs) + len(needs) - 1


def _orders_after_task(orders_to):
    # Orders that have reached the same lot with the same tasks left go on alike.
    after = {}
    for (lot, left), many in orders_to.items():
        for at, need in enumerate(left):
            picks, worn = serve(lot, [need])
            # Equal tasks next give the same order, so only the first of them counts.
            if picks != [0] and need not in left[:at]:
                state = (worn, left[:at] + left[at + 1:])
                after[state] = after.get(state, 0) + many
    return after


def _check_few(heap):
    if len(heap) > MOST_ORDERED_TASKS:
        raise TooLarge("more than 7 tasks")
