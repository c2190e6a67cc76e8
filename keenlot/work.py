"""Performing tasks: each one lowers the sharpness of the tool that performs it by one."""

from keenlot.checks import check_lot, check_positive, check_row, is_integer
from keenlot.errors import CannotDo, InvalidOption, InvalidPicks, MissingTool, TooLarge
from keenlot.lots import capacity

RULES = ("dullest", "sharpest")
MOST_GROUPED_TASKS = 10
MOST_GROUPED_TOOLS = 6


def choices(lot, need):
    """Return the distinct sharpness values that are at least need, in descending order."""
    check_lot(lot)
    check_positive(need)
    return _suitable(lot, need)


def use(lot, tool, need):
    """Return the lot after a tool of sharpness tool has performed a task."""
    check_lot(lot)
    check_positive(tool)
    check_positive(need)
    _check_can_use(lot, tool, need)
    return _worn(lot, tool)


def walk(lot, row, picks):
    """Follow the picks, one for each task of the row, and return the final lot."""
    check_lot(lot)
    check_row(row)
    _check_picks_form(row, picks)
    left = lot
    for index, pick in enumerate(picks):
        if pick != 0:
            if pick not in _suitable(left, row[index]):
                raise InvalidPicks(index)
            left = _worn(left, pick)
    return left


def work(lot, row, *, by="dullest"):
    """Perform every task by the rule; return (picks, final lot)."""
    check_lot(lot)
    check_row(row)
    _check_rule(by)
    return perform(lot, row, by, False)


def serve(lot, row, *, by="dullest"):
    """Perform as work does, but skip the tasks that no tool can perform."""
    check_lot(lot)
    check_row(row)
    _check_rule(by)
    return perform(lot, row, by, True)


def outcomes(lot, row):
    """Return the ascending list of the final lots of all walks without skips."""
    _check_grouped(lot, row)
    ways_to = _ways_by_final_lot(lot, row)
    return sorted(ways_to)


def ways(lot, row):
    """Return the number of the lists of picks of all walks without skips."""
    _check_grouped(lot, row)
    ways_to = _ways_by_final_lot(lot, row)
    return sum(ways_to.values())


def loss(lot, need, tool):
    """Return the range of needs that lose capacity if tool replaces the dullest choice.

    The range is a tuple (low, high), or None if tool is the dullest suitable tool.
    """
    dullest = _dullest_beside(lot, need, tool)
    if tool == dullest:
        return None
    return dullest + 1, tool


def regret(lot, need, tool):
    """Return a row that work performs, but no walk whose first pick is tool.

    Return None if tool is the dullest suitable tool.
    """
    dullest = _dullest_beside(lot, need, tool)
    if tool == dullest:
        return None
    low = dullest + 1
    return [need] + [low] * capacity(_worn(lot, dullest), low)


def perform(tools, row, by, skipping):
    """Perform the row by the rule; skip the tasks that no tool can perform, or raise CannotDo.

    The tools are in non-increasing order, and may be beyond the limits of a lot.
    """
    picks = []
    left = tools
    for index, need in enumerate(row):
        suitable = _suitable(left, need)
        if suitable:
            pick = suitable[0] if by == "sharpest" else suitable[-1]
            picks.append(pick)
            left = _worn(left, pick)
        elif skipping:
            picks.append(0)
        else:
            raise CannotDo(index, left)
    return picks, left


def _suitable(lot, need):
    found = []
    for tool in lot:
        if tool >= need and tool not in found:
            found.append(tool)
    return found


def _worn(lot, tool):
    # Of equal tools the last one wears, so that the lot stays in order.
    at = lot.index(tool) + lot.count(tool) - 1
    rest = (tool - 1,) if tool > 1 else ()
    return lot[:at] + rest + lot[at + 1:]


def _ways_by_final_lot(lot, row):
    ways_to = {lot: 1}
    for need in row:
        ways_to = _ways_after_task(ways_to, need)
    return ways_to


def _ways_after_task(ways_to, need):
    # Walks that have reached the same lot go on alike, so only their number is kept.
    after = {}
    for lot, many in ways_to.items():
        for tool in _suitable(lot, need):
            left = _worn(lot, tool)
            after[left] = after.get(left, 0) + many
    return after


def _dullest_beside(lot, need, tool):
    check_lot(lot)
    check_positive(need)
    check_positive(tool)
    _check_can_use(lot, tool, need)
    return _suitable(lot, need)[-1]


def _check_can_use(lot, tool, need):
    if tool not in lot:
        raise MissingTool(tool)
    if tool < need:
        raise CannotDo(0, lot)


def _check_picks_form(row, picks):
    if not isinstance(picks, list) or len(picks) != len(row):
        raise InvalidPicks(None)
    if not all(is_integer(pick) for pick in picks):
        raise InvalidPicks(None)


def _check_rule(by):
    if by not in RULES:
        raise InvalidOption("neither dullest nor sharpest")


def _check_grouped(lot, row):
    check_lot(lot)
    check_row(row)
    if len(row) > MOST_GROUPED_TASKS or len(lot) > MOST_GROUPED_TOOLS:
        raise TooLarge("more than 10 tasks or more than 6 tools")
