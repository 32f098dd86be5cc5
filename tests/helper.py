"""What several test files need: things of all sorts, kinds with their values, and grammars."""

from itertools import product

NONE = ("none",)
DIGIT = ("number", 0, 9)
SIDE = ("name", ("lef", "rig"))


def nested(inner, levels, wrap):
    for level in range(levels):
        inner = wrap(inner)
    return inner


def rows_around(kind, levels, most=1):
    return nested(kind, levels, lambda inner: ("row", inner, most))


def shown(thing, levels=8):
    """A thing as a text, cut off below some levels: written out whole, some of the odd things have no end."""
    if not isinstance(thing, (tuple, list)):
        return repr(thing)
    inside = ", ".join(shown(part, levels - 1) for part in thing) if levels else ".."
    return ("(%s)" if isinstance(thing, tuple) else "[%s]") % inside


# Things that are neither kinds nor grammars, whatever is asked of them.
ODD_THINGS = (
    None, True, False, 0, 1, -7, 10 ** 30, "", "none", "end", "number", "~ !",
    (), [], ((),), [[]], ([],), (None,), (True,), (0,), ("",), ("nun",), ("None",), (("none",),), (["none"],),
    ["none"], ["end"], ("none", "none"), (None, None), ("none", None), "no", ("no", "ne"),
    nested((), 30, lambda inner: (inner,)), nested([], 30, lambda inner: [inner]),
    nested("none", 30, lambda inner: (inner, inner)), nested(("none",), 30, lambda inner: ("row", inner, 3)),
    nested(("none",), 30, lambda inner: ("pair", inner, inner)), nested(7, 30, lambda inner: [inner, (inner,)]),
)


def values_of(kind):
    """All values of a small kind, by counting them out."""
    if kind[0] == "none":
        return [None]
    if kind[0] == "number":
        return list(range(kind[1], kind[2] + 1))
    if kind[0] == "name":
        return list(kind[1])
    if kind[0] == "pair":
        return list(product(values_of(kind[1]), values_of(kind[2])))
    inner = values_of(kind[1])
    return [row for length in range(kind[2] + 1) for row in product(inner, repeat=length)]


def small_kinds():
    """Kinds of all sorts and up to two deep, each with few values."""
    plain = [
        NONE, ("number", 0, 1), ("number", 1, 2), ("number", 0, 2), ("number", -3, -3),
        ("name", ("a",)), ("name", ("a", "b")), ("name", ("b", "c")),
    ]
    pairs = [("pair", one, other) for one in plain for other in plain]
    rows = [("row", inner, most) for inner in plain for most in range(4)]
    few = pairs[::9] + rows[::5] + [("row", ("number", 0, 1), 2), ("row", ("name", ("b",)), 0)]
    deep_pairs = [("pair", one, other) for one in few[::2] for other in (plain[1], few[0], few[-2])]
    deep_rows = [("row", inner, most) for inner in few for most in (0, 1, 2) if len(values_of(inner)) < 10]
    return plain + pairs + rows + deep_pairs + deep_rows


def is_plain(thing):
    """Whether a thing is made of tuples, texts, whole numbers, truths and None alone."""
    if isinstance(thing, tuple):
        return all(is_plain(part) for part in thing)
    return thing is None or isinstance(thing, (int, str))


# Hand 0 asks hand 1 for a price; hand 1 tells it, or says no; at a price hand 0 haggles,
# leaves, or takes it, and then tells hand 2 what to bring.
TRADE = (3, (
    ("say", 0, 1, (("ask", SIDE, 1),)),
    ("say", 1, 0, (("is", DIGIT, 2), ("no", NONE, 4))),
    ("say", 0, 1, (("bid", DIGIT, 1), ("bye", NONE, 4), ("yes", NONE, 3))),
    ("say", 0, 2, (("go", ("row", SIDE, 2), 4),)),
    ("end",),
))


def chain(length, hands=2):
    """A grammar of length places, each but the last one said by hand 0 and leading to the next one."""
    says = [("say", 0, 1, (("on", NONE, number + 1),)) for number in range(length - 1)]
    return (hands, tuple(says) + (("end",),))
