"""Shops: lots that are kept under names, with changes that can be undone."""

from keenlot.checks import check_count, check_lot, check_row
from keenlot.errors import DuplicateName, InvalidName, MissingTool, NothingToUndo, UnknownName
from keenlot.keeping import lose
from keenlot.lots import combine
from keenlot.sharpening import sharpen
from keenlot.work import serve, work

MOST_LETTERS = 8


class Shop:
    """Lots under names."""

    def __init__(self):
        self._lots = {}
        # the steel added, the steps of sharpening, the tasks performed and the steel removed
        self._totals = (0, 0, 0, 0)
        # what each change that stands has replaced: the lots of its names and the totals
        self._replaced = []

    def names(self):
        """Return the ascending list of the names."""
        return sorted(self._lots)

    def lot_of(self, name):
        """Return the lot under a name."""
        _check_name(name)
        return self._kept_lot(name)

    def put(self, name, lot):
        """Add a lot under a name that is not kept."""
        _check_name(name)
        check_lot(lot)
        self._check_new(name)
        self._change({name: lot}, added=sum(lot))

    def take(self, name):
        """Remove a name and return its lot."""
        _check_name(name)
        lot = self._kept_lot(name)
        self._change({name: None}, removed=sum(lot))
        return lot

    def give(self, name, lot):
        """Combine the kept lot with lot."""
        _check_name(name)
        check_lot(lot)
        self._change({name: combine(self._kept_lot(name), lot)}, added=sum(lot))

    def work(self, name, row):
        """Perform every task of the row with the kept lot; return the picks."""
        return self._perform(name, row, work)

    def serve(self, name, row):
        """Perform the row with the kept lot, skipping what no tool can perform; return the picks."""
        return self._perform(name, row, serve)

    def sharpen(self, name, steps):
        """Sharpen the kept lot by the steps, without a cap."""
        _check_name(name)
        check_count(steps)
        self._change({name: sharpen(self._kept_lot(name), steps)}, sharpened=steps)

    def lose(self, name, count):
        """Remove the count sharpest tools of the kept lot."""
        _check_name(name)
        check_count(count)
        lot = self._kept_lot(name)
        left = lose(lot, count)
        self._change({name: left}, removed=sum(lot) - sum(left))

    def absorb(self, first, second):
        """Move all tools of second to first and remove second."""
        _check_name(first)
        _check_name(second)
        lot = self._kept_lot(first)
        moved = self._kept_lot(second)
        if first == second:
            raise UnknownName(second)
        self._change({first: combine(lot, moved), second: None})

    def split_off(self, name, count, new):
        """Move the count sharpest tools to the new name."""
        _check_name(name)
        check_count(count)
        _check_name(new)
        lot = self._kept_lot(name)
        self._check_new(new)
        if count > len(lot):
            raise MissingTool(None)
        self._change({name: lot[count:], new: lot[:count]})

    def undo(self):
        """Restore the state before the last change that still stands."""
        if not self._replaced:
            raise NothingToUndo("no change still stands")
        lots, self._totals = self._replaced.pop()
        self._store(lots)

    def totals(self):
        """Return (added, sharpened, performed, removed), without undone changes."""
        return self._totals

    def _perform(self, name, row, rule):
        _check_name(name)
        check_row(row)
        picks, left = rule(self._kept_lot(name), row)
        self._change({name: left}, performed=len(picks) - picks.count(0))
        return picks

    def _change(self, lots, added=0, sharpened=0, performed=0, removed=0):
        self._replaced.append(({name: self._lots.get(name) for name in lots}, self._totals))
        more = (added, sharpened, performed, removed)
        self._totals = tuple([total + part for total, part in zip(self._totals, more)])
        self._store(lots)

    def _store(self, lots):
        # None stands for a name that is not kept: the empty lot is a lot like any other.
        for name, lot in lots.items():
            if lot is None:
                del self._lots[name]
            else:
                self._lots[name] = lot

    def _kept_lot(self, name):
        if name not in self._lots:
            raise UnknownName(name)
        return self._lots[name]

    def _check_new(self, name):
        if name in self._lots:
            raise DuplicateName(name)


def _check_name(value):
    if not isinstance(value, str) or not 1 <= len(value) <= MOST_LETTERS:
        raise InvalidName("not a string of 1 to 8 letters")
    if not all("a" <= letter <= "z" for letter in value):
        raise InvalidName("not letters from a to z")
