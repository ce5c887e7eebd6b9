"""What a card must remember for a wish."""

from cutofftills.errors import BadKind
from cutofftills.limits import keeps_wish
from cutofftills.words import TOP_REMEMBERED, is_word


def greatest_memory(town, kind, wish):
    """The greatest n with which the town, with the memory (kind, n), keeps the wish, or None."""
    if not is_word(kind, "times") and not is_word(kind, "sum"):
        raise BadKind(kind)
    kept = kept_memories(town, kind, wish)
    return kept[-1][1] if len(kept) > 0 else None


def memories_keeping(town, wish):
    """The list of the memories with which the town keeps the wish: nothing, times, sum, n ascending."""
    nothing = ("nothing",)
    kept = [nothing] if keeps_wish(town.changed("memory", nothing), wish) else []
    return kept + kept_memories(town, "times", wish) + kept_memories(town, "sum", wish)


def kept_memories(town, kind, wish):
    """The list of the memories of a kind with which the town keeps the wish, n ascending."""
    kept = []
    for most in range(TOP_REMEMBERED + 1):
        memory = (kind, most)
        # What a card takes it also takes if it may remember more, so no greater n can keep the wish.
        if not keeps_wish(town.changed("memory", memory), wish):
            return kept
        kept.append(memory)
    return kept
