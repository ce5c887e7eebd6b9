"""A plain town that follows the document word by word, and plain searches over it.

It goes by names and by all that happened, not by states, and shares no code
with the package but `Town` and `Till`.
"""

import copy
import itertools
import random

from cutofftills.tills import Till
from cutofftills.towns import Town


class Plain:
    """A town that goes on; `clipped` forgets what is left below what can be topped up."""

    def __init__(self, town, clipped=False):
        self.town = town
        self.clipped = clipped
        self.line = {name: True for name in town.names()}
        self.untold = {name: 0 for name in town.names()}
        self.heard = {}
        self.told = {}
        self.since = []
        self.left = town.money
        self.lost = False
        self.paid = 0
        self.paid_after_loss = 0
        self.topped = 0
        self.words = []

    def twin(self):
        other = copy.copy(self)
        for part in ("line", "untold", "heard", "told"):
            setattr(other, part, dict(getattr(self, part)))
        other.since = list(self.since)
        other.words = list(self.words)
        return other

    def tops(self):
        return 0 if self.lost else self.town.tops - self.topped

    def stopped(self):
        return self.lost or self.left <= 0

    def connected(self, name):
        return any(self.line[one] for one in self.town.group(name))

    def can(self, event):
        word, name = event[0], event[-1]
        if word == "cut":
            return self.line[name]
        if word == "line":
            return not self.line[name]
        if word == "again":
            return self.line[name] and self.told.get(name, 0) > 0
        if word == "top":
            return event[1] <= self.tops()
        return word == "pay" or not self.lost

    def do(self, event):
        word = getattr(self, "do_" + event[0])(*event[1:]) or "done"
        if self.clipped:
            self.left = max(self.left, -self.tops())
        self.words.append(word)
        return word

    def do_cut(self, name):
        self.line[name] = False
        if not self.connected(name):
            for one in self.town.group(name):
                self.heard[one] = self.stopped()

    def do_line(self, name):
        self.line[name] = True
        self.told[name] = self.untold[name]
        self.left -= self.untold[name]
        self.untold[name] = 0
        for one in self.town.group(name):
            self.heard.pop(one, None)

    def do_again(self, name):
        if not self.town.numbered:
            self.left -= self.told[name]

    def do_top(self, units):
        self.topped += units
        self.left += units

    def do_lose(self):
        self.lost = True

    def do_pay(self, name, units):
        word = self.refusal(name, units)
        if word:
            return word
        if self.line[name]:
            self.left -= units
            self.since = []
        else:
            self.untold[name] += units
            self.since.append(units)
        self.paid += units
        self.paid_after_loss += units if self.lost else 0
        return "taken"

    def refusal(self, name, units):
        if self.line[name]:
            return "house" if self.lost or self.left < units else None
        if self.town[name].heeds:
            if self.stopped() if self.connected(name) else self.heard[name]:
                return "list"
        group = [one for one in self.town.group(name) if not self.line[one]]
        if sum(self.untold[one] for one in group) + units > self.town[name].limit:
            return "limit"
        memory = self.town.memory
        if memory[0] == "times" and len(self.since) + 1 > memory[1]:
            return "memory"
        if memory[0] == "sum" and sum(self.since) + units > memory[1]:
            return "memory"
        return None

    def state(self):
        names = self.town.names()
        remembered = {"nothing": 0, "times": len(self.since), "sum": sum(self.since)}[self.town.memory[0]]
        return (tuple(self.line[name] for name in names), tuple(self.untold[name] for name in names),
                tuple(self.heard.get(name, False) for name in names), remembered,
                max(self.left, -self.tops()), self.lost, self.tops())

    def overspent(self):
        return max(0, self.paid - self.town.money - self.topped)

    def room(self):
        """What an honest payment may have now."""
        return self.town.money + self.topped - self.paid


def all_events(town):
    names = town.names()
    return ([("cut", name) for name in names] + [("line", name) for name in names]
            + [("pay", name, units) for name in names for units in (1, 2)]
            + [("top", 1), ("top", 2), ("lose",)] + [("again", name) for name in names])


def plain_choices(plain, agains=False):
    return [event for event in all_events(plain.town)
            if plain.can(event) and (agains or event[0] != "again")]


def played(town, events):
    plain = Plain(town)
    for event in events:
        assert plain.can(event), event
        plain.do(event)
    return plain


def plain_states(town):
    """The reached states, by fewest events, each with a plain town there."""
    first = Plain(town, clipped=True)
    found = {first.state(): first}
    queue = [first]
    for plain in queue:
        for event in plain_choices(plain):
            other = plain.twin()
            other.do(event)
            if other.state() not in found:
                found[other.state()] = other
                queue.append(other)
    return found


def plain_steps(town):
    """The dict from the reached states to lists of (event, word, state, paid, topped, lost ahead)."""
    table = {}
    for state, plain in plain_states(town).items():
        rows = []
        for event in plain_choices(plain):
            other = plain.twin()
            word = other.do(event)
            rows.append((event, word, other.state(), other.paid - plain.paid, other.topped - plain.topped,
                         plain.lost))
        table[state] = rows
    return table


def plain_distances(town, table):
    """The dict from the reached states to the fewest events; table is what plain_steps tells."""
    distances = {Plain(town).state(): 0}
    queue = list(distances)
    for state in queue:
        for row in table[state]:
            if row[2] not in distances:
                distances[row[2]] = distances[state] + 1
                queue.append(row[2])
    return distances


def plain_worst(town, table, after_loss):
    """(most, fewest events) of what is overspent or paid after a loss; (None, None) without a bound.

    It goes through the lengths of runs: whatever still rises behind a run
    with more events than there are states went round.
    """
    less = 0 if after_loss else town.money
    best = {Plain(town).state(): 0}
    reached = dict(best)
    most, fewest = 0, 0
    for length in range(1, len(table) + 1):
        ahead, best = best, {}
        for state, weight in ahead.items():
            for _, _, behind, paid, topped, lost in table[state]:
                gained = (paid if lost else 0) if after_loss else paid - topped
                if weight + gained > reached.get(behind, -100) and weight + gained > best.get(behind, -100):
                    best[behind] = weight + gained
        if not best:
            return most, fewest
        reached.update(best)
        if max(best.values()) - less > most:
            most, fewest = max(best.values()) - less, length
    return None, None


def plain_refusals(town):
    """The dict from words to the fewest events of a run that ends with such a wrong refusal."""
    found = {}
    first = Plain(town)
    seen = {first.state()}
    rank = [first]
    length = 1
    while rank:
        following = []
        for plain in rank:
            for event in plain_choices(plain):
                if event[0] == "lose" or event[0] == "pay" and event[2] > plain.room():
                    continue
                other = plain.twin()
                word = other.do(event)
                if word not in ("done", "taken"):
                    found.setdefault(word, length)
                if other.state() not in seen:
                    seen.add(other.state())
                    following.append(other)
        rank = following
        length += 1
    return found


def plain_twice(town):
    """The fewest events of a run whose last one takes a payment twice, or None: by runs with agains."""
    if town.numbered:
        return None
    first = Plain(town, clipped=True)
    seen = {(first.state(), ())}
    rank = [first]
    length = 1
    while rank:
        following = []
        for plain in rank:
            for event in plain_choices(plain, agains=True):
                if event[0] == "again":
                    return length
                other = plain.twin()
                other.do(event)
                key = (other.state(), tuple(sorted(other.told.items())))
                if key not in seen:
                    seen.add(key)
                    following.append(other)
        rank = following
        length += 1
    return None


def small_towns():
    """Some hundreds of towns with few states, of one to four tills, with every kind of part."""
    memories = [("nothing",), ("times", 0), ("times", 1), ("sum", 0), ("sum", 1), ("sum", 3), ("times", 2)]
    towns = []
    for limit, heeds, money, memory, tops in itertools.product((0, 1, 3), (True, False), (0, 1, 3), memories[:6],
                                                               (0, 1, 2)):
        towns.append(Town([Till("q", limit, heeds=heeds)], money=money, memory=memory, tops=tops,
                          numbered=(limit + money + tops) % 2 == 0))
    chance = random.Random(5)
    for _ in range(120):
        names = chance.sample(["a", "b", "c", "d"], 2)
        tills = [Till(name, chance.randrange(4), heeds=chance.random() < 0.7) for name in names]
        links = [tuple(sorted(names))] if chance.random() < 0.5 else []
        towns.append(Town(tills, links=links, money=chance.randrange(4), memory=chance.choice(memories),
                          tops=chance.randrange(3), numbered=chance.random() < 0.5))
    for _ in range(24):
        names = chance.sample(["a", "b", "c", "d"], 3)
        tills = [Till(name, chance.randrange(3), heeds=chance.random() < 0.8) for name in names]
        pairs = list(itertools.combinations(sorted(names), 2))
        links = chance.sample(pairs, chance.randrange(3))
        towns.append(Town(tills, links=links, money=chance.randrange(2), memory=chance.choice(memories),
                          tops=chance.randrange(2), numbered=chance.random() < 0.5))
    for links in [[], [("a", "b")], [("a", "b"), ("c", "d")], [("a", "b"), ("b", "c")],
                  [("a", "b"), ("b", "c"), ("c", "d")]]:
        tills = [Till(name, limit) for name, limit in zip("dabc", (1, 0, 1, 1))]
        towns.append(Town(tills, links=links, money=1))
    return towns


def random_runs(seed, many, length, agains=True):
    """Pairs of a town and a list of events that can be, one after the other."""
    chance = random.Random(seed)
    memories = [("nothing",), ("times", 2), ("sum", 3), ("times", 0), ("sum", 9)]
    for _ in range(many):
        names = chance.sample(["a", "b", "c", "d", "abcdefgh"], chance.randrange(1, 5))
        pairs = list(itertools.combinations(sorted(names), 2))
        links = [pair for pair in pairs if chance.random() < 0.3]
        tills = [Till(name, chance.choice((0, 1, 2, 3, 9)), heeds=chance.random() < 0.6) for name in names]
        town = Town(tills, links=links, money=chance.choice((0, 1, 2, 4, 9)), memory=chance.choice(memories),
                    tops=chance.choice((0, 1, 2, 5)), numbered=chance.random() < 0.4)
        plain = Plain(town)
        events = []
        for _ in range(chance.randrange(length + 1)):
            choices = plain_choices(plain, agains=agains)
            rare = [event for event in choices if event[0] != "lose"]
            event = chance.choice(rare if chance.random() < 0.9 else choices)
            plain.do(event)
            events.append(event)
        yield town, events
