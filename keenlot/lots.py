"""Lots: the tools that are there, as tuples of sharpness values in non-increasing order."""

from keenlot.checks import MOST_NUMBER, check_count, check_limits, check_lot, check_positive
from keenlot.checks import is_list_between, is_valid_lot
from keenlot.errors import InvalidList, MissingTool


def is_lot(value):
    """Return whether value, any value, is a lot."""
    return is_valid_lot(value)


def make_lot(values):
    """Return the lot of the positive integers in values."""
    if not is_list_between(values, 0, MOST_NUMBER):
        raise InvalidList("not a list of integers from 0 to 200")
    return _lot_of_tools([value for value in values if value > 0])


def steel(lot):
    """Return the sum of the sharpness values."""
    check_lot(lot)
    return sum(lot)


def top_sum(lot, count):
    """Return the sum of the count sharpest tools, or of all if there are fewer."""
    check_lot(lot)
    check_count(count)
    return sum(lot[:count])


def capacity(lot, need):
    """Return how many tasks of this need the lot can perform."""
    check_lot(lot)
    check_positive(need)
    return capacity_of(lot, need)


def count_from(lot, need):
    """Return the number of tools whose sharpness is at least need."""
    check_lot(lot)
    check_positive(need)
    return len([tool for tool in lot if tool >= need])


def combine(first, second):
    """Return the lot of the tools of both lots."""
    check_lot(first)
    check_lot(second)
    return _lot_of_tools([*first, *second])


def remove(lot, tools):
    """Return lot without the tools of the lot tools."""
    check_lot(lot)
    check_lot(tools)
    left = list(lot)
    # The tools of a lot descend, so the first one that is missing is the greatest.
    for tool in tools:
        if tool not in left:
            raise MissingTool(tool)
        left.remove(tool)
    return tuple(left)


def capacity_of(tools, need):
    """Return the capacity of a tuple of tools, which may be beyond the limits of a lot."""
    return sum([tool - need + 1 for tool in tools if tool >= need])


def _lot_of_tools(tools):
    lot = tuple(sorted(tools, reverse=True))
    check_limits(lot)
    return lot
