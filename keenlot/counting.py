"""Counting the lots that a lot covers."""

from keenlot.checks import check_lot
from keenlot.errors import TooLarge

MOST_LISTED_STEEL = 12
MOST_COUNTED_STEEL = 40


def covered_lots(lot):
    """Return the ascending list of all lots that lot covers."""
    check_lot(lot)
    _check_steel(lot, MOST_LISTED_STEEL)
    covered = []
    longest = [()]
    while longest:
        covered.extend(longest)
        longest = [more for shorter in longest for more in _with_one_tool(lot, shorter)]
    return sorted(covered)


def count_covered(lot):
    """Return the number of the lots that lot covers."""
    check_lot(lot)
    _check_steel(lot, MOST_COUNTED_STEEL)
    many = 0
    size = 0
    # Lots of the same size, last tool and steel are continued alike, so only their number is kept.
    ends = {(sum(lot), 0): 1}
    while ends:
        many = many + sum(ends.values())
        size = size + 1
        ends = _ends_with_one_tool(ends, sum(lot[:size]))
    return many


def _with_one_tool(lot, shorter):
    # A lot covers those whose top sums are at most its own, so the next top sum bounds the next tool.
    left = sum(lot[:len(shorter) + 1]) - sum(shorter)
    greatest = min(left, shorter[-1]) if shorter else left
    return [(*shorter, tool) for tool in range(1, greatest + 1)]


def _ends_with_one_tool(ends, top):
    longer = {}
    for (last, total), many in ends.items():
        for tool in range(1, min(last, top - total) + 1):
            end = (tool, total + tool)
            longer[end] = longer.get(end, 0) + many
    return longer


def _check_steel(lot, most):
    if sum(lot) > most:
        raise TooLarge("more steel than " + str(most))
