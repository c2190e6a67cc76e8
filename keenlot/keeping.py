"""Keeping and losing tools, and events that mix tasks, sharpening and losing."""

from keenlot.checks import MOST_NUMBER, MOST_STEEL, check_count, check_lot, check_order, check_row, is_between
from keenlot.errors import InvalidEvents, TooLarge
from keenlot.heaps import check_enough, is_enough
from keenlot.sharpening import sharpened
from keenlot.work import serve

MOST_EVENTS = 200


def tools_kept(lot, heap, *, order="every"):
    """Return the least n for which some n tools of the lot are enough for the heap."""
    check_lot(lot)
    check_row(heap)
    check_order(order)
    check_enough(lot, heap, order)
    count = 0
    while not is_enough(lot[:count], heap, order):
        count = count + 1
    return count


def tools_spared(lot, heap, *, order="every"):
    """Return the greatest n for which the lot is enough for the heap whichever n tools are removed."""
    check_lot(lot)
    check_row(heap)
    check_order(order)
    check_enough(lot, heap, order)
    count = len(lot)
    while not is_enough(lot[count:], heap, order):
        count = count - 1
    return count


def lose(lot, count):
    """Return the lot without its count sharpest tools."""
    check_lot(lot)
    check_count(count)
    return lot[count:]


def run_events(lot, events):
    """Process the events in order; return (picks, final lot) with one pick for each task."""
    check_lot(lot)
    _check_events(events)
    # What the tasks take away on the way does not count against the limit.
    if sum(lot) + sum([number for word, number in events if word == "sharpen"]) > MOST_STEEL:
        raise TooLarge("more than 200 steel with all steps")
    picks = []
    left = lot
    for word, number in events:
        if word == "task":
            served, left = serve(left, [number])
            picks.extend(served)
        elif word == "sharpen":
            left = sharpened(left, number, None)
        else:
            left = lose(left, number)
    return picks, left


def _check_events(value):
    if not isinstance(value, list) or len(value) > MOST_EVENTS:
        raise InvalidEvents("not a list of at most 200 events")
    if not all(_is_event(item) for item in value):
        raise InvalidEvents("not a list of events")


def _is_event(value):
    if not isinstance(value, tuple) or len(value) != 2:
        return False
    word, number = value
    if word == "task":
        return is_between(number, 1, MOST_NUMBER)
    return word in ("sharpen", "lose") and is_between(number, 0, MOST_NUMBER)
