"""How many ways there are, and how soon one comes to an end."""

from parleyturn.grammars import END, choices_at, comings
from parleyturn.kinds import how_many


def count(grammar, length):
    if length < 0:
        return 0
    # By place, how many ways of the length that was looked at lead there.
    leading = {0: 1}
    # Values are counted once for each kind, since that may take long.
    sizes = {}
    for step in range(length):
        leading = one_word_on(grammar[1], leading, sizes)
    return sum(leading.values())


def one_word_on(places, leading, sizes):
    further = {}
    for here, ways in leading.items():
        for word, kind, number in choices_at(places[here]):
            if kind not in sizes:
                sizes[kind] = how_many(kind)
            further[number] = further.get(number, 0) + ways * sizes[kind]
    return further


def soonest(grammar, place):
    # Those to which one comes by fewer words stand ahead of others, so the first end is the nearest.
    for number, steps in comings(grammar[1], place).items():
        if grammar[1][number] == END:
            return steps
    return None
