"""The rule by dues, for things of unlike costs and rooms, and the prices that its run sets."""

from castoff.errors import NotThere
from castoff.ratios import minus_ratio, plus_ratio, ratio_of, under_ratio
from castoff.rules import Rule


class Dues(Rule):
    def __init__(self, stock, places):
        Rule.__init__(self, stock, places)
        self.reached = (0, 1)
        # Kept in the order of the last asks, so that of equal dues the first is the one longest not asked.
        self.dues = {}
        self.rises = []

    def asked(self, name):
        self.rises.append((0, 1))
        if name in self.dues:
            self.dues.pop(name)
            self.owe(name)

    def owe(self, name):
        self.dues[name] = plus_ratio(self.reached, ratio_of(self.stock.cost_of(name), self.stock.room_of(name)))

    def choice(self, lying):
        names = list(self.dues)
        least = names[0]
        for name in names:
            if under_ratio(self.dues[name], self.dues[least]):
                least = name
        return least

    def gone(self, name):
        due = self.dues.pop(name)
        self.rises[-1] = plus_ratio(self.rises[-1], minus_ratio(due, self.reached))
        self.reached = due

    def came(self, name):
        self.owe(name)

    def level(self):
        return self.reached

    def due_of(self, name):
        if name not in self.dues:
            raise NotThere(f"{name!r} does not lie on the shelf")
        return self.dues[name]

    def prices(self):
        return list(self.rises)
