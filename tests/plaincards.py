"""Plain purses and clocks that follow the document word by word, and a plain search for the most over both.

They go by names and by all that happened, and share no code with the package
but `Town` and `Till`.
"""

import copy
import itertools
import random

from cutofftills.tills import Till
from cutofftills.towns import Town
from plain import Plain


class PlainPurse:
    """A town with some cards that goes on."""

    def __init__(self, town, cards):
        self.town = town
        self.line = {name: True for name in town.names()}
        self.untold = [{name: 0 for name in town.names()} for _ in range(cards)]
        self.heard = [{} for _ in range(cards)]
        self.since = [[] for _ in range(cards)]
        self.lost = [False] * cards
        self.left = town.money
        self.paid = 0
        self.topped = 0

    def twin(self):
        other = copy.copy(self)
        other.line = dict(self.line)
        other.untold = [dict(row) for row in self.untold]
        other.heard = [dict(row) for row in self.heard]
        other.since = [list(row) for row in self.since]
        other.lost = list(self.lost)
        return other

    def all_events(self):
        names, cards = self.town.names(), range(len(self.lost))
        return ([("cut", name) for name in names] + [("line", name) for name in names]
                + [("pay", card, name, units) for card in cards for name in names for units in (1, 2)]
                + [("top", 1), ("top", 2)] + [("lose", card) for card in cards])

    def tops(self):
        return 0 if all(self.lost) else self.town.tops - self.topped

    def can(self, event):
        if event[0] in ("cut", "line"):
            return self.line[event[1]] == (event[0] == "cut")
        if event[0] == "top":
            return event[1] <= self.tops()
        return event[0] == "pay" or not self.lost[event[1]]

    def stopped(self, card):
        return self.lost[card] or self.left <= 0

    def connected(self, name):
        return any(self.line[one] for one in self.town.group(name))

    def do(self, event):
        if event[0] == "pay":
            return self.pay(*event[1:])
        if event[0] == "lose":
            self.lost[event[1]] = True
        if event[0] == "top":
            self.topped += event[1]
            self.left += event[1]
        if event[0] == "cut":
            self.line[event[1]] = False
            if not self.connected(event[1]):
                for card, heard in enumerate(self.heard):
                    heard.update({one: self.stopped(card) for one in self.town.group(event[1])})
        if event[0] == "line":
            self.line[event[1]] = True
            for untold, heard in zip(self.untold, self.heard):
                self.left -= untold[event[1]]
                untold[event[1]] = 0
                for one in self.town.group(event[1]):
                    heard.pop(one, None)
        return "done"

    def pay(self, card, name, units):
        word = self.refusal(card, name, units)
        if word:
            return word
        if self.line[name]:
            self.left -= units
            self.since[card] = []
        else:
            self.untold[card][name] += units
            self.since[card].append(units)
        self.paid += units
        return "taken"

    def refusal(self, card, name, units):
        if self.line[name]:
            return "house" if self.lost[card] or self.left < units else None
        if self.town[name].heeds and (self.stopped(card) if self.connected(name) else self.heard[card][name]):
            return "list"
        group = [one for one in self.town.group(name) if not self.line[one]]
        if sum(self.untold[card][one] for one in group) + units > self.town[name].limit:
            return "limit"
        memory, since = self.town.memory, self.since[card]
        if memory[0] == "times" and len(since) + 1 > memory[1] or memory[0] == "sum" and sum(since) + units > memory[1]:
            return "memory"
        return None

    def state(self):
        names = self.town.names()
        kept = {"nothing": lambda since: 0, "times": len, "sum": sum}[self.town.memory[0]]
        cards = tuple((tuple(self.untold[card][name] for name in names),
                       tuple(self.heard[card].get(name, False) for name in names),
                       kept(self.since[card]), self.lost[card]) for card in range(len(self.lost)))
        return tuple(self.line[name] for name in names), cards, max(self.left, -self.tops()), self.tops()


class PlainClocks(Plain):
    """A town with clocks that goes on; it keeps all that is untold, however much."""

    def __init__(self, town, days):
        super().__init__(town)
        self.counted = {name: 0 for name in town.names()}
        self.days = days

    def twin(self):
        other = super().twin()
        other.counted = dict(self.counted)
        return other

    def all_events(self):
        names = self.town.names()
        return ([("cut", name) for name in names] + [("line", name) for name in names]
                + [("pay", name, units) for name in names for units in (1, 2)]
                + [("top", 1), ("top", 2), ("lose",)] + [("day", name) for name in names])

    def can(self, event):
        if event[0] == "day":
            return not self.line[event[1]] and (self.days is None or self.days > 0)
        return super().can(event)

    def do_day(self, name):
        self.counted[name] = 0
        self.days = None if self.days is None else self.days - 1

    def do_line(self, name):
        super().do_line(name)
        self.counted[name] = 0

    def do_pay(self, name, units):
        word = super().do_pay(name, units)
        if word == "taken" and not self.line[name]:
            self.counted[name] += units
        return word

    def refusal(self, name, units):
        other = Plain.twin(self)
        other.untold = self.counted
        return Plain.refusal(other, name, units)

    def state(self):
        lines, untold, heard, remembered, left, lost, tops = super().state()
        told = tuple(min(units, self.town.money + 2 * self.town.tops) for units in untold)
        counted = tuple(self.counted[name] for name in self.town.names())
        return (lines, told, heard, remembered, left, lost, tops), counted, self.days


def plain_table(first):
    """The dict from the reached states to lists of (event, word, state behind, paid, topped)."""
    table = {}
    queue = [first]
    found = {first.state()}
    for plain in queue:
        rows = table[plain.state()] = []
        for event in plain.all_events():
            if plain.can(event):
                other = plain.twin()
                word = other.do(event)
                rows.append((event, word, other.state(), other.paid - plain.paid, other.topped - plain.topped))
                if other.state() not in found:
                    found.add(other.state())
                    queue.append(other)
    return table


def plain_most(first, table):
    """(most, fewest events) of what is overspent by runs of all lengths; (None, None) without a bound."""
    best = {first.state(): 0}
    reached = dict(best)
    most, fewest = 0, 0
    for length in range(1, len(table) + 1):
        ahead, best = best, {}
        for state, weight in ahead.items():
            for _, _, behind, paid, topped in table[state]:
                risen = weight + paid - topped
                if risen > reached.get(behind, -100) and risen > best.get(behind, -100):
                    best[behind] = risen
        if not best:
            return most, fewest
        reached.update(best)
        if max(best.values()) - first.town.money > most:
            most, fewest = max(best.values()) - first.town.money, length
    return None, None


def card_towns(seed, many, tills=2, limit=3, tops=(0, 0, 1, 2)):
    """Random towns with few states."""
    chance = random.Random(seed)
    memories = [("nothing",), ("nothing",), ("times", 1), ("sum", 2), ("times", 0), ("sum", 3)]
    for _ in range(many):
        names = chance.sample(["a", "b", "c", "d"], chance.randrange(1, tills + 1))
        pairs = list(itertools.combinations(sorted(names), 2))
        links = [pair for pair in pairs if chance.random() < 0.5]
        top = limit if len(names) == 1 else limit - 1
        rows = [Till(name, chance.randrange(top + 1), heeds=chance.random() < 0.7) for name in names]
        yield Town(rows, links=links, money=chance.randrange(3), memory=chance.choice(memories),
                   tops=chance.choice(tops), numbered=chance.random() < 0.5)


def random_ways(first, chance, length):
    """A list of events that can be, one after the other, with the plain ones ahead of each and behind the last."""
    plain = first
    events, plains = [], [first]
    for _ in range(chance.randrange(length + 1)):
        choices = [event for event in plain.all_events() if plain.can(event)]
        rare = [event for event in choices if event[0] != "lose"]
        event = chance.choice(rare if chance.random() < 0.9 else choices)
        plain = plain.twin()
        plain.do(event)
        events.append(event)
        plains.append(plain)
    return events, plains
