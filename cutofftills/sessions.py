"""Sessions: a town with its changes, which can be taken back."""

from cutofftills.errors import BadLink, BadTown, NothingToUndo
from cutofftills.towns import Town


class Session:
    """A town and what was changed in it; it changes."""

    def __init__(self, town):
        if not isinstance(town, Town):
            raise BadTown(town)
        self._town = town
        # The towns ahead of each change; a tuple, so that an attempt need not copy it.
        self._earlier = ()

    def __len__(self):
        return len(self._earlier)

    def current(self):
        """The Town as it is now."""
        return self._town

    def put(self, till):
        """Puts a Till in the place of the one with its name."""
        self._change(self._town.with_till(till))

    def assign(self, part, value):
        """Gives the town another money, memory, tops or numbered."""
        self._change(self._town.changed(part, value))

    def join(self, one, other):
        """Puts a link between two tills in."""
        link = link_between(self._town, one, other)
        if link is None or link in self._town.links:
            raise BadLink(None)
        self._change(self._town.with_links(self._town.links + (link,)))

    def unjoin(self, one, other):
        """Takes the link between two tills away."""
        link = link_between(self._town, one, other)
        if link is None or link not in self._town.links:
            raise BadLink(None)
        self._change(self._town.with_links([old for old in self._town.links if old != link]))

    def undo(self):
        """Takes back the last change."""
        if len(self._earlier) == 0:
            raise NothingToUndo("undo")
        self._town = self._earlier[-1]
        self._earlier = self._earlier[:-1]

    def attempt(self, visitor):
        """What a function returns for the session, which then is again as it was."""
        town, earlier = self._town, self._earlier
        try:
            return visitor(self)
        finally:
            self._town, self._earlier = town, earlier

    def trial(self):
        """An object for one `with`, which gives the session; behind it the session is again as it was."""
        return Trial(self)

    def _change(self, town):
        """Goes on with another town."""
        self._earlier = self._earlier + (self._town,)
        self._town = town


class Trial:
    """What one `with` changes in a session is taken back behind it."""

    def __init__(self, session):
        self.session = session
        self.town = None
        self.earlier = None

    def __enter__(self):
        self.town = self.session._town
        self.earlier = self.session._earlier
        return self.session

    def __exit__(self, kind, value, trace):
        session = self.session
        session._town = self.town
        session._earlier = self.earlier


def link_between(town, one, other):
    """The link between two tills, whatever their order, or None if any values give none."""
    if one not in town or other not in town or one == other:
        return None
    return (one, other) if one < other else (other, one)
