"""Days: one row after another, with sharpening in the evenings between them."""

from keenlot.checks import MOST_NUMBER, check_cap, check_count, check_limits, check_lot, is_list_of_rows
from keenlot.errors import CannotDo, InvalidDays
from keenlot.sharpening import check_not_sharper, least_number, sharpened
from keenlot.work import perform


def through(lot, days, steps, *, cap=None):
    """Perform all days, sharpening in the evenings between them; return the lots at the ends of the days."""
    _check_plan(lot, days, steps, cap)
    return _lots_at_ends(lot, days, steps, cap, True)


def through_any(lot, days, steps, *, cap=None):
    """Return whether all days can be performed, in whatever order the tasks of each day arrive."""
    _check_plan(lot, days, steps, cap)
    # No other order of a day leaves less than the ascending one.
    return _are_performed(lot, [sorted(heap) for heap in days], steps, cap, True)


def even_steps(lot, days):
    """Return the least number of steps an evening with which all days are performed, or None."""
    check_lot(lot)
    _check_days(days)
    if not _are_performed(lot, days, MOST_NUMBER, None, False):
        return None
    return least_number(MOST_NUMBER, lambda steps: _are_performed(lot, days, steps, None, False))


def _are_performed(lot, days, steps, cap, limited):
    try:
        _lots_at_ends(lot, days, steps, cap, limited)
    except CannotDo:
        return False
    return True


def _lots_at_ends(lot, days, steps, cap, limited):
    ends = []
    left = lot
    for day, row in enumerate(days):
        if day > 0:
            left = sharpened(left, steps, cap)
            if limited:
                check_limits(left)
        left = _left_after(left, row, day)
        ends.append(left)
    return ends


def _left_after(tools, row, day):
    try:
        _, left = perform(tools, row, "dullest", False)
    except CannotDo as error:
        raise CannotDo(error.index, error.lot, day) from None
    return left


def _check_plan(lot, days, steps, cap):
    check_lot(lot)
    _check_days(days)
    check_count(steps)
    check_cap(cap)
    check_not_sharper(lot, cap)


def _check_days(value):
    if not is_list_of_rows(value):
        raise InvalidDays("not a list of 1 to 20 rows")
