"""A console: lines of text that ask and change a session, each with a text as its answer."""

from cutofftills.errors import BadLine
from cutofftills.limits import keeps_wish
from cutofftills.runs import Run
from cutofftills.sessions import Session
from cutofftills.texts import is_figure, kind_of, read_events, write_town
from cutofftills.tills import Till
from cutofftills.words import is_name
from cutofftills.worst import most_overspent


class Console:
    """A session that is asked and changed by lines; it changes."""

    def __init__(self, town):
        self.session = Session(town)

    def answer(self, line):
        """The text that a line gets."""
        if not isinstance(line, str):
            raise BadLine(line)
        words = line.split(" ")
        if words[0] == "words":
            return told_words(self.session.current(), line[len("words "):])
        if words[0] in ("town", "most", "keeps"):
            return told(self.session.current(), line, words)
        change(self.session, line, words)
        return "ok"


def told_words(town, text):
    """The words of the run of some events that are written."""
    words = Run(town, read_events(text)).words()
    return " ".join(words) if words else "-"


def told(town, line, words):
    """What is told of a town."""
    if line == "town":
        return write_town(town)
    if line == "most":
        most = most_overspent(town)
        return "none" if most is None else str(most)
    if len(words) == 2 and words[0] == "keeps" and is_number(words[1]):
        return "yes" if keeps_wish(town, int(words[1])) else "no"
    raise BadLine(line)


def is_number(word):
    """Whether a word is one or two figures, without a 0 ahead."""
    if len(word) == 2:
        return word[0] != "0" and is_figure(word[0]) and is_figure(word[1])
    return is_figure(word)


def change(session, line, words):
    """Changes the town of a session as the words of a line say."""
    kind = kind_of(words)
    if line == "undo":
        session.undo()
    elif kind == "till":
        session.put(Till(words[1], int(words[2]), heeds=len(words) == 3))
    elif kind == "link":
        session.join(words[1], words[2])
    elif kind in ("money", "tops"):
        session.assign(kind, int(words[1]))
    elif len(words) == 3 and words[0] == "unlink" and is_name(words[1]) and is_name(words[2]):
        session.unjoin(words[1], words[2])
    else:
        raise BadLine(line)
