"""A shop that keeps every state it has had, to compare the shop of the package with."""

from keenlot import keeping, lots, sharpening, work


class ModelShop:
    """States are pairs of the lots by their names and the totals; the last one stands."""

    def __init__(self):
        self.states = [({}, (0, 0, 0, 0))]

    def names(self):
        return sorted(self.states[-1][0])

    def lot_of(self, name):
        return self.states[-1][0][name]

    def totals(self):
        return self.states[-1][1]

    def undo(self):
        if len(self.states) == 1:
            raise IndexError
        self.states.pop()

    def put(self, name, lot):
        if name in self.states[-1][0]:
            raise KeyError
        self.change({name: lot}, added=sum(lot))

    def take(self, name):
        lot = self.lot_of(name)
        self.change({name: None}, removed=sum(lot))
        return lot

    def give(self, name, lot):
        self.change({name: lots.combine(self.lot_of(name), lot)}, added=sum(lot))

    def work(self, name, row):
        picks, lot = work.work(self.lot_of(name), row)
        self.change({name: lot}, performed=len(row))
        return picks

    def serve(self, name, row):
        picks, lot = work.serve(self.lot_of(name), row)
        self.change({name: lot}, performed=len([pick for pick in picks if pick > 0]))
        return picks

    def sharpen(self, name, steps):
        self.change({name: sharpening.sharpen(self.lot_of(name), steps)}, sharpened=steps)

    def lose(self, name, count):
        self.change({name: keeping.lose(self.lot_of(name), count)}, removed=lots.top_sum(self.lot_of(name), count))

    def absorb(self, first, second):
        lot, moved = self.lot_of(first), self.lot_of(second)
        if first == second:
            raise KeyError
        self.change({first: lots.combine(lot, moved), second: None})

    def split_off(self, name, count, new):
        lot = self.lot_of(name)
        if new in self.states[-1][0] or count > len(lot):
            raise KeyError
        self.change({name: lot[count:], new: lot[:count]})

    def change(self, new_lots, added=0, sharpened=0, performed=0, removed=0):
        kept, before = self.states[-1]
        kept = {name: lot for name, lot in {**kept, **new_lots}.items() if lot is not None}
        totals = tuple(sum(pair) for pair in zip(before, (added, sharpened, performed, removed)))
        self.states.append((kept, totals))
