"""A town by the indexes of its tills, as its states are written."""

from cutofftills.events import events_of


class Layout:
    """What the steps of a town's states need, looked up once; it never changes."""

    def __init__(self, town):
        names = town.names()
        tills = [town[name] for name in names]
        self.indexes = {name: index for index, name in enumerate(names)}
        self.limits = tuple([till.limit for till in tills])
        self.heeding = tuple([till.heeds for till in tills])
        self.groups = tuple([tuple([self.indexes[one] for one in town.group(name)]) for name in names])
        self.kind = town.memory[0]
        self.top_remembered = most_remembered(town.memory)
        self.numbered = town.numbered
        self.plain_events = [event for event in events_of(town) if event[0] != "again"]


def most_remembered(memory):
    """The greatest number that a card with a memory comes to."""
    return memory[1] if len(memory) == 2 else 0
