"""Comparing lots by their capacities."""

from keenlot.checks import MOST_NUMBER, MOST_TOOLS, check_lot, is_valid_lot
from keenlot.errors import InvalidList
from keenlot.lots import capacity_of

MOST_LOTS = 20


def covers(first, second):
    """Return whether first has at least the capacity of second for every need."""
    check_lot(first)
    check_lot(second)
    return _least_gap(first, second) is None


def gap(first, second):
    """Return the least need for which first has less capacity than second, or None."""
    check_lot(first)
    check_lot(second)
    return _least_gap(first, second)


def parting_row(first, second):
    """Return a row that second can perform and first cannot, or None if first covers second."""
    check_lot(first)
    check_lot(second)
    need = _least_gap(first, second)
    if need is None:
        return None
    return [need] * (capacity_of(first, need) + 1)


def least_cover(lots):
    """Return the lot that covers all lots of the list and is covered by each lot that does so."""
    _check_lots(lots)
    return _lot_with_capacities([_greatest_capacity(lots, need) for need in range(1, MOST_NUMBER + 3)])


def greatest_covered(lots):
    """Return the lot that all lots of the list cover and that covers each lot that they all cover."""
    _check_lots(lots)
    sums = [min([sum(lot[:count]) for lot in lots]) for count in range(MOST_TOOLS + 1)]
    tools = [more - less for less, more in zip(sums, sums[1:])]
    return tuple([tool for tool in tools if tool > 0])


def _least_gap(first, second):
    # Beyond its sharpest tool second has no capacity that first could lack.
    for need in range(1, max((0, *second)) + 1):
        if capacity_of(first, need) < capacity_of(second, need):
            return need
    return None


def _greatest_capacity(lots, need):
    return max([capacity_of(lot, need) for lot in lots])


def _lot_with_capacities(capacities):
    # A tool adds one more to the capacity for each lower need, so the number of tools of exactly one
    # sharpness is by how much the growth of the capacity changes there. Item k is for need k + 1.
    tools = []
    for tool in range(MOST_NUMBER, 0, -1):
        many = capacities[tool - 1] - 2 * capacities[tool] + capacities[tool + 1]
        tools = tools + [tool] * many
    return tuple(tools)


def _check_lots(value):
    if not isinstance(value, list) or not 1 <= len(value) <= MOST_LOTS:
        raise InvalidList("not a list of 1 to 20 lots")
    if not all(is_valid_lot(item) for item in value):
        raise InvalidList("not a list of lots")
