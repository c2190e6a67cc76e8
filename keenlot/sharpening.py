"""Sharpening: each step raises a tool by one or creates a tool of sharpness 1."""

from keenlot.checks import MOST_NUMBER, check_cap, check_count, check_limits, check_lot, check_order
from keenlot.checks import check_positive, check_row
from keenlot.errors import Impossible, TooSharp
from keenlot.heaps import check_enough, is_enough


def sharpen(lot, steps, *, cap=None):
    """Return the lot after the steps, each given to the sharpest tool that is below cap."""
    check_lot(lot)
    check_count(steps)
    check_cap(cap)
    check_not_sharper(lot, cap)
    sharper = sharpened(lot, steps, cap)
    check_limits(sharper)
    return sharper


def steps_needed(lot, heap, *, order="every", cap=None):
    """Return the least number of steps after which the lot can perform the heap."""
    check_lot(lot)
    check_row(heap)
    check_order(order)
    check_cap(cap)
    check_not_sharper(lot, cap)
    _check_needs(heap, cap)
    # This many steps are enough for a new tool of the greatest sharpness for each task.
    most = len(heap) * (MOST_NUMBER if cap is None else cap)
    return least_number(most, lambda steps: is_enough(sharpened(lot, steps, cap), heap, order))


def tools_needed(lot, heap, cap, *, order="every"):
    """Return the least number of tools, none above cap, with which the lot can perform the heap."""
    check_lot(lot)
    check_row(heap)
    check_positive(cap)
    check_order(order)
    # More tools than one for each task are never used.
    most = len(heap)
    check_enough(_with_tools(lot, most, cap), heap, order)
    return least_number(most, lambda count: is_enough(_with_tools(lot, count, cap), heap, order))


def least_lot(heap, cap):
    """Return the lot of the least steel, without tools above cap, that performs the heap in every order."""
    check_row(heap)
    check_positive(cap)
    _check_needs(heap, cap)
    tools = []
    left = sorted(heap, reverse=True)
    while left:
        size = min(cap - left[0] + 1, len(left))
        tools.append(left[0] + size - 1)
        left = left[size:]
    check_limits(tools)
    return tuple(tools)


def check_not_sharper(lot, cap):
    """Raise TooSharp with the sharpest tool if it exceeds cap."""
    if cap is not None and lot and lot[0] > cap:
        raise TooSharp(lot[0])


def sharpened(lot, steps, cap):
    """Return the tools after the steps, which may be beyond the limits of a lot."""
    # Without a cap the sharpest tool takes all steps, as it does below a bound that it cannot reach earlier.
    bound = max(1, sum(lot) + steps) if cap is None else cap
    tools = []
    left = steps
    for tool in lot:
        taken = min(left, bound - tool)
        tools.append(tool + taken)
        left = left - taken
    tools = tools + [bound] * (left // bound)
    last = left % bound
    return tuple(tools + [last] if last > 0 else tools)


def least_number(most, holds):
    """Return the least number from 0 for which it holds, where it holds for most and for all above the least."""
    low = 0
    high = most
    while low < high:
        middle = (low + high) // 2
        if holds(middle):
            high = middle
        else:
            low = middle + 1
    return low


def _with_tools(lot, count, cap):
    return tuple(sorted(list(lot) + [cap] * count, reverse=True))


def _check_needs(heap, cap):
    if cap is not None and max([0, *heap]) > cap:
        raise Impossible(max(heap))
