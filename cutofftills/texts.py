"""Towns and events as texts."""

from cutofftills.errors import BadText
from cutofftills.events import TILL_WORDS
from cutofftills.tills import Till
from cutofftills.towns import Town
from cutofftills.words import is_name


def write_town(town):
    """The text of a town, row by row."""
    rows = [till_row(town[name]) for name in town.names()]
    rows.extend([f"link {one} {other}" for one, other in town.links])
    rows.append(f"money {town.money}")
    rows.append("memory " + spaced(town.memory))
    rows.append(f"tops {town.tops}")
    if not town.numbered:
        rows.append("unnumbered")
    return "\n".join(rows)


def till_row(till):
    """The row of a till."""
    return f"till {till.name} {till.limit}" + ("" if till.heeds else " deaf")


def spaced(parts):
    """Words and numbers with blanks between them."""
    return " ".join([str(part) for part in parts])


def write_events(events):
    """The text of a list of events."""
    return "; ".join([spaced(event) for event in events])


def is_figure(word):
    """Whether a word is one figure."""
    return len(word) == 1 and "0" <= word <= "9"


def kind_of(words):
    """What the words of a row tell, if they have its form, or None."""
    kind = words[0]
    if kind == "till":
        fits = len(words) == 3 or (len(words) == 4 and words[3] == "deaf")
        return kind if fits and is_name(words[1]) and is_figure(words[2]) else None
    if kind == "link":
        return kind if len(words) == 3 and is_name(words[1]) and is_name(words[2]) else None
    if kind in ("money", "tops"):
        return kind if len(words) == 2 and is_figure(words[1]) else None
    if kind == "memory":
        return kind if is_memory_row(words) else None
    return kind if words == ["unnumbered"] else None


def is_memory_row(words):
    """Whether these are the words of a row of a memory."""
    if len(words) == 3:
        return words[1] in ("times", "sum") and is_figure(words[2])
    return words == ["memory", "nothing"]


def behind_kind(kinds, at, kind):
    """The index behind the kinds of this one kind from an index on."""
    while at < len(kinds) and kinds[at] == kind:
        at += 1
    return at


def check_kinds(kinds):
    """Raises BadText for the first row that is not as it must be there, or where one is lacking."""
    at = behind_kind(kinds, 0, "till")
    if at == 0:
        raise BadText(0)
    at = behind_kind(kinds, at, "link")
    for kind in ("money", "memory", "tops"):
        if at == len(kinds) or kinds[at] != kind:
            raise BadText(at)
        at += 1
    if at < len(kinds) and kinds[at] == "unnumbered":
        at += 1
    if at < len(kinds):
        raise BadText(at)


def read_town(text):
    """The Town of a text."""
    if not isinstance(text, str):
        raise BadText(None)
    rows = [row.split(" ") for row in text.split("\n")]
    kinds = [kind_of(words) for words in rows]
    check_kinds(kinds)
    tills = [Till(words[1], int(words[2]), heeds=len(words) == 3) for words in rows if words[0] == "till"]
    links = [(words[1], words[2]) for words in rows if words[0] == "link"]
    money, memory, tops = [words[1:] for words in rows if words[0] in ("money", "memory", "tops")]
    remembered = ("nothing",) if len(memory) == 1 else (memory[0], int(memory[1]))
    return Town(tills, links=links, money=int(money[0]), memory=remembered, tops=int(tops[0]),
                numbered=kinds[-1] != "unnumbered")


def read_event(text):
    """The event of a text, or None if it has no such form."""
    words = text.split(" ")
    if words == ["lose"]:
        return ("lose",)
    if len(words) == 3 and words[0] == "pay" and is_name(words[1]) and is_figure(words[2]):
        return ("pay", words[1], int(words[2]))
    if len(words) == 2 and words[0] == "top" and is_figure(words[1]):
        return ("top", int(words[1]))
    if len(words) == 2 and words[0] in TILL_WORDS and is_name(words[1]):
        return (words[0], words[1])
    return None


def read_events(text):
    """The list of the events of a text, of any tills."""
    if not isinstance(text, str):
        raise BadText(None)
    if text == "":
        return []
    events = [read_event(part) for part in text.split("; ")]
    for index, event in enumerate(events):
        if event is None:
            raise BadText(index)
    return events
