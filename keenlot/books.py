"""Books: lists of heaps, of which one arrives in part or whole, each of its needs perhaps smaller."""

from keenlot.checks import MOST_ROWS, MOST_TASKS, check_count, check_lot, check_row, is_list_of_rows
from keenlot.errors import InvalidBook, TooLarge
from keenlot.heaps import is_enough
from keenlot.sharpening import steps_needed


def allows(book, row):
    """Return whether the row can arrive."""
    _check_book(book)
    check_row(row)
    needs = _descending(row)
    return any([_is_within(needs, _descending(heap)) for heap in book])


def serves(lot, book):
    """Return whether work performs every row that the book allows."""
    check_lot(lot)
    _check_book(book)
    return all([is_enough(lot, heap, "every") for heap in book])


def failing_row(lot, book):
    """Return the first heap that the lot cannot perform in every order, in ascending order, or None."""
    check_lot(lot)
    _check_book(book)
    for heap in book:
        if not is_enough(lot, heap, "every"):
            return sorted(heap)
    return None


def reduce_book(book):
    """Return the book without the heaps that another heap makes redundant."""
    _check_book(book)
    return _reduced(book)


def either(first, second):
    """Return the reduced book of the heaps of both books."""
    _check_book(first)
    _check_book(second)
    return _reduced(first + second)


def merge(first, second):
    """Return the reduced book of all heaps that join a heap of first and a heap of second."""
    _check_book(first)
    _check_book(second)
    heaps = [heap + other for heap in first for other in second]
    if max([len(heap) for heap in heaps]) > MOST_TASKS:
        raise TooLarge("a heap of more than 200 tasks")
    return _reduced(heaps)


def limit_tasks(book, count):
    """Return the reduced book of the count greatest needs of each heap."""
    _check_book(book)
    check_count(count)
    return _reduced([_descending(heap)[:count] for heap in book])


def steps_for(lot, book):
    """Return the least number of sharpening steps after which the lot serves the book."""
    check_lot(lot)
    _check_book(book)
    # Without a cap all steps go to one tool, so what is enough for one heap helps with each other one.
    return max([steps_needed(lot, heap) for heap in book])


def _reduced(heaps):
    kept = []
    descending = [_descending(heap) for heap in heaps]
    # In this order each heap stands behind those that make it redundant.
    for needs in sorted(descending, reverse=True):
        if not any([_is_within(needs, others) for others in kept]):
            kept.append(needs)
            if len(kept) > MOST_ROWS:
                raise TooLarge("more than 20 heaps")
    return sorted(kept)


def _descending(heap):
    return sorted(heap, reverse=True)


def _is_within(needs, others):
    # Both descend: each need is then at most one of its own among the others.
    return len(needs) <= len(others) and all([need <= other for need, other in zip(needs, others)])


def _check_book(value):
    if not is_list_of_rows(value):
        raise InvalidBook("not a list of 1 to 20 heaps")
