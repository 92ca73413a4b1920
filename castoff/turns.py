"""Rules that keep rows of their own: a hand that goes round, and two rows with a bound."""

from castoff.rules import Rule


class Hand(Rule):
    def __init__(self, stock, places):
        Rule.__init__(self, stock, places)
        self.order = []
        self.marked = {}

    def asked(self, name):
        if name in self.order:
            self.marked[name] = True

    def choice(self, lying):
        while self.order[0] in self.marked:
            front = self.order.pop(0)
            self.marked.pop(front)
            self.order.append(front)
        return self.order[0]

    def gone(self, name):
        self.order.remove(name)

    def came(self, name):
        self.order.append(name)
        self.marked[name] = True

    def line(self):
        return list(self.order)

    def marks(self):
        told = 0
        worth = 1
        for name in self.stock.names():
            if name in self.marked:
                told += worth
            worth *= 2
        return told


def move(name, start, end):
    start.remove(name)
    end.append(name)


def step_of(other, own):
    return max(1, len(other) // len(own))


class Rows(Rule):
    def __init__(self, stock, places):
        Rule.__init__(self, stock, places)
        self.once = []
        self.again = []
        self.past_once = []
        self.past_again = []
        self.bound = 0
        self.returns = False

    def asked(self, name):
        self.returns = name in self.past_once or name in self.past_again
        if name in self.once:
            move(name, self.once, self.again)
        elif name in self.again:
            move(name, self.again, self.again)
        elif self.returns:
            self.take_back(name)

    def take_back(self, name):
        # The step is told by the lengths with the thing still in, so it is taken out behind that.
        if name in self.past_once:
            self.bound = min(self.places, self.bound + step_of(self.past_again, self.past_once))
            self.past_once.remove(name)
        else:
            self.bound = max(0, self.bound - step_of(self.past_once, self.past_again))
            self.past_again.remove(name)

    def choice(self, lying):
        if self.once != [] and (len(self.once) > self.bound or self.again == []):
            return self.once[0]
        return self.again[0]

    def gone(self, name):
        if name in self.once:
            self.leave(name, self.once, self.past_once)
        else:
            self.leave(name, self.again, self.past_again)

    def leave(self, name, row, past):
        move(name, row, past)
        if len(past) > self.places:
            past.pop(0)

    def came(self, name):
        if self.returns:
            self.again.append(name)
        else:
            self.once.append(name)

    def rows(self):
        return (list(self.once), list(self.again), list(self.past_once), list(self.past_again), self.bound)
