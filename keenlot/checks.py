"""The checks of arguments that the files of the package share."""

from keenlot.errors import InvalidLot, InvalidNumber, InvalidOption, InvalidRow, TooLarge

MOST_TOOLS = 60
MOST_STEEL = 200
MOST_TASKS = 200
MOST_ROWS = 20
MOST_NUMBER = 200
ORDERS = ("every", "some")


def is_integer(value):
    """Return whether value is an integer."""
    # To Python a bool is an int, to the package it never is one.
    return isinstance(value, int) and not isinstance(value, bool)


def is_between(value, low, high):
    """Return whether value is an integer from low to high."""
    return is_integer(value) and low <= value <= high


def is_list_between(value, low, high):
    """Return whether value is a list of integers from low to high."""
    return isinstance(value, list) and all(is_between(item, low, high) for item in value)


def is_within_limits(lot):
    """Return whether a tuple of tools has neither too many tools nor too much steel."""
    return len(lot) <= MOST_TOOLS and sum(lot) <= MOST_STEEL


def is_valid_lot(value):
    """Return whether value, any value, is a lot."""
    if not isinstance(value, tuple):
        return False
    if not all(is_between(tool, 1, MOST_STEEL) for tool in value):
        return False
    return list(value) == sorted(value, reverse=True) and is_within_limits(value)


def is_valid_row(value):
    """Return whether value, any value, is a row (or, which is the same, a heap)."""
    return is_list_between(value, 1, MOST_NUMBER) and len(value) <= MOST_TASKS


def is_list_of_rows(value):
    """Return whether value, any value, is a list of 1 to 20 rows (days) or heaps (a book)."""
    if not isinstance(value, list) or not 1 <= len(value) <= MOST_ROWS:
        return False
    return all(is_valid_row(item) for item in value)


def check_lot(value):
    """Raise InvalidLot unless value is a lot."""
    if not is_valid_lot(value):
        raise InvalidLot("not a lot")


def check_row(value):
    """Raise InvalidRow unless value is a row or a heap."""
    if not is_valid_row(value):
        raise InvalidRow("not a list of at most 200 needs")


def check_positive(value):
    """Raise InvalidNumber unless value can be a need, a cap or the argument tool."""
    if not is_between(value, 1, MOST_NUMBER):
        raise InvalidNumber("not an integer from 1 to 200")


def check_count(value):
    """Raise InvalidNumber unless value can be a count or a number of steps."""
    if not is_between(value, 0, MOST_NUMBER):
        raise InvalidNumber("not an integer from 0 to 200")


def check_cap(value):
    """Raise InvalidNumber unless value is None or can be a cap."""
    if value is not None:
        check_positive(value)


def check_order(value):
    """Raise InvalidOption unless value says in which orders a heap is to be performed."""
    if value not in ORDERS:
        raise InvalidOption("neither every nor some")


def check_limits(lot):
    """Raise TooLarge if a resulting lot has too many tools or too much steel."""
    if not is_within_limits(lot):
        raise TooLarge("more than 60 tools or more than 200 steel")
