"""Kinds of values: what is one, what it holds, and how kinds lie to one another.

Only is_kind holds kinds to the bounds of 1.1. All else takes kinds beyond them too,
down to such that hold no value at all (low above high, no names, a row of most -1).
"""

LEAST_NUMBER = -1000000
GREATEST_NUMBER = 1000000
MOST_NAMES = 6
LONGEST_WORD = 3
LONGEST_ROW = 9
DEEPEST = 6

# Its one value is the empty tuple, whatever the kind inside.
EMPTY_ROW = ("row", ("none",), 0)


def is_whole_from(thing, low, high):
    # True and False are ints to Python, but no whole numbers here.
    return isinstance(thing, int) and not isinstance(thing, bool) and low <= thing <= high


def is_tuple_of(thing, least, most):
    return isinstance(thing, tuple) and least <= len(thing) <= most


def is_word(thing):
    if not isinstance(thing, str) or not 1 <= len(thing) <= LONGEST_WORD:
        return False
    return all(["a" <= sign <= "z" for sign in thing])


def rises(words):
    return all([words[k - 1] < words[k] for k in range(1, len(words))])


def are_bounds(low, high):
    return is_whole_from(low, LEAST_NUMBER, GREATEST_NUMBER) and is_whole_from(high, low, GREATEST_NUMBER)


def are_names(thing):
    if not is_tuple_of(thing, 1, MOST_NAMES):
        return False
    return all([is_word(name) for name in thing]) and rises(thing)


def is_kind(thing):
    return is_kind_above(thing, DEEPEST)


def is_kind_above(thing, levels):
    # The levels are counted ahead of all else, so that nothing is walked that lies too deep.
    if levels < 0 or not is_tuple_of(thing, 1, 3):
        return False
    head = thing[0]
    if head == "none":
        return len(thing) == 1
    if head == "name":
        return len(thing) == 2 and are_names(thing[1])
    if len(thing) != 3:
        return False
    if head == "number":
        return are_bounds(thing[1], thing[2])
    if head == "pair":
        return is_kind_above(thing[1], levels - 1) and is_kind_above(thing[2], levels - 1)
    if head == "row":
        return is_whole_from(thing[2], 0, LONGEST_ROW) and is_kind_above(thing[1], levels - 1)
    return False


def is_value(kind, thing):
    head = kind[0]
    if head == "none":
        return thing is None
    if head == "number":
        return is_whole_from(thing, kind[1], kind[2])
    if head == "name":
        return thing in kind[1]
    if head == "pair":
        return is_tuple_of(thing, 2, 2) and is_value(kind[1], thing[0]) and is_value(kind[2], thing[1])
    return is_tuple_of(thing, 0, kind[2]) and are_values(kind[1], thing)


def are_values(kind, things):
    for thing in things:
        if not is_value(kind, thing):
            return False
    return True


def has_no_value(kind):
    head = kind[0]
    if head == "number":
        return kind[1] > kind[2]
    if head == "name":
        return len(kind[1]) == 0
    if head == "pair":
        return has_no_value(kind[1]) or has_no_value(kind[2])
    return head == "row" and kind[2] < 0


def first_value(kind):
    head = kind[0]
    if head == "none":
        return None
    if head == "number":
        return kind[1]
    if head == "name":
        return kind[1][0]
    if head == "pair":
        return (first_value(kind[1]), first_value(kind[2]))
    return ()


def how_many(kind):
    head = kind[0]
    if has_no_value(kind):
        return 0
    if head == "none":
        return 1
    if head == "number":
        return kind[2] - kind[1] + 1
    if head == "name":
        return len(kind[1])
    if head == "pair":
        return how_many(kind[1]) * how_many(kind[2])
    return how_many_rows(how_many(kind[1]), kind[2])


def how_many_rows(values, most):
    # A row is empty, or it is a value ahead of a row that is shorter by one.
    rows = 1
    for length in range(most):
        rows = rows * values + 1
    return rows


def within(one, other):
    return stray(one, other) is None


def stray(one, other):
    if has_no_value(one):
        return None
    if one[0] == "pair":
        return stray_pair(one, other)
    if one[0] == "row":
        return stray_row(one, other)
    return stray_plain(one, other)


def stray_plain(one, other):
    for value in marks_of(one):
        if not is_value(other, value):
            return (value,)
    return None


def marks_of(kind):
    # A kind that has both ends of a span has all between, so the ends stand for all.
    if kind[0] == "none":
        return (None,)
    if kind[0] == "number":
        return (kind[1], kind[2])
    return kind[1]


def as_pair(kind):
    # The kind's tuples of two, as a kind of pairs; None where it has none.
    if kind[0] == "pair":
        return kind
    if kind[0] == "row" and kind[2] >= 2:
        return ("pair", kind[1], kind[1])
    return None


def stray_pair(one, other):
    pair = as_pair(other)
    if pair is None:
        return (first_value(one),)
    left = stray(one[1], pair[1])
    if left is not None:
        return ((left[0], first_value(one[2])),)
    right = stray(one[2], pair[2])
    if right is not None:
        return ((first_value(one[1]), right[0]),)
    return None


def stray_row(one, other):
    # Every row has the empty tuple, and no kind but a row has it.
    if not is_value(other, ()):
        return ((),)
    if one[2] == 0 or has_no_value(one[1]):
        return None
    if one[2] > other[2]:
        return ((first_value(one[1]),) * (other[2] + 1),)
    inner = stray(one[1], other[1])
    if inner is None:
        return None
    # The stray value comes alone in a tuple, which is a row of it already.
    return (inner,)


def shared(one, other):
    if one[0] == "pair" or other[0] == "pair":
        return shared_pair(as_pair(one), as_pair(other))
    if one[0] != other[0]:
        return None
    if one[0] == "number":
        return shared_number(one, other)
    if one[0] == "name":
        return shared_name(one, other)
    if one[0] == "row":
        return shared_row(one, other)
    return one


def shared_number(one, other):
    low = max(one[1], other[1])
    high = min(one[2], other[2])
    if low > high:
        return None
    return ("number", low, high)


def shared_name(one, other):
    names = tuple([name for name in one[1] if name in other[1]])
    if len(names) == 0:
        return None
    return ("name", names)


def shared_pair(one, other):
    if one is None or other is None:
        return None
    left = shared(one[1], other[1])
    right = shared(one[2], other[2])
    if left is None or right is None:
        return None
    return ("pair", left, right)


def shared_row(one, other):
    most = min(one[2], other[2])
    if most < 0:
        return None
    inner = shared(one[1], other[1])
    if inner is None:
        return EMPTY_ROW
    return ("row", inner, most)
