"""What single values are: integers, lists, names, limits, memories."""

LONGEST_NAME = 8
TOP_LIMIT = 9
TOP_MONEY = 9
MOST_TOPS = 5
TOP_REMEMBERED = 9


def is_integer(value):
    """Whether any value is an integer; True and False are none."""
    return isinstance(value, int) and not isinstance(value, bool)


def is_integer_to(value, top):
    """Whether any value is an integer from 0 to top."""
    return is_integer(value) and 0 <= value <= top


def is_truth(value):
    """Whether any value is True or False."""
    return isinstance(value, bool)


def is_list(value):
    """Whether any value can stand where a list is asked for."""
    return isinstance(value, (list, tuple))


def is_word(value, word):
    """Whether any value is this string; values of other kinds are not asked."""
    return isinstance(value, str) and value == word


def is_name(value):
    """Whether any value is a name: one to eight letters from a to z."""
    if not isinstance(value, str) or not 1 <= len(value) <= LONGEST_NAME:
        return False
    return all(["a" <= letter <= "z" for letter in value])


def is_limit(value):
    """Whether any value is a limit of a till."""
    return is_integer_to(value, TOP_LIMIT)


def is_memory(value):
    """Whether any value is a memory: nothing, or a number of times or a sum."""
    if not isinstance(value, tuple) or not 1 <= len(value) <= 2:
        return False
    if len(value) == 1:
        return is_word(value[0], "nothing")
    kind, most = value
    return (is_word(kind, "times") or is_word(kind, "sum")) and is_integer_to(most, TOP_REMEMBERED)
