"""Grammars put together, and such that begin somewhere else."""

from parleyturn.grammars import END, comings, renumbered

NONE = ("none",)


def asked(grammars, leader, words):
    hands = grammars[0][0]
    others = all_but(hands, leader)
    relay = 1
    goal = 1 + len(words) * (len(others) - 1)
    choices = []
    relays = []
    places = []
    for word, grammar in zip(words, grammars):
        choices.append(passed_on(others[1:], word, relay, goal))
        relays.extend(relays_of(leader, others[1:], word, relay, goal))
        places.extend(shifted(grammar[1], goal))
        relay += len(others) - 1
        goal += len(grammar[1])
    asking = ("say", leader, others[0], tuple(choices))
    return (hands, tuple([asking] + relays + places))


def followed(one, other):
    if one[1][0] == END:
        return other
    kept = without_ends(one[1])
    return (one[0], tuple(kept + shifted(other[1], len(kept))))


def again(grammar, leader, more, stop):
    hands = grammar[0]
    others = all_but(hands, leader)
    kept = []
    if grammar[1][0] != END:
        kept = without_ends(grammar[1])
    on_more = len(kept) + 1
    on_stop = on_more + len(others) - 1
    end = on_stop + len(others) - 1
    choices = [passed_on(others[1:], more, on_more, 0), passed_on(others[1:], stop, on_stop, end)]
    asking = ("say", leader, others[0], tuple(sorted(choices)))
    relays = relays_of(leader, others[1:], more, on_more, 0) + relays_of(leader, others[1:], stop, on_stop, end)
    return (hands, tuple(kept + [asking] + relays + [END]))


def rooted(grammar, place):
    order = list(comings(grammar[1], place))
    numbers = {}
    for number, old in enumerate(order):
        numbers[old] = number
    return (grammar[0], tuple([renumbered(grammar[1][old], numbers) for old in order]))


def all_but(hands, hand):
    return [other for other in range(hands) if other != hand]


# The places at which a hand says a word on to others, one by one, numbered from start on; the last one leads to goal.
def relays_of(hand, others, word, start, goal):
    places = []
    for k, other in enumerate(others, start=1):
        number = goal if k == len(others) else start + k
        places.append(("say", hand, other, ((word, NONE, number),)))
    return places


# The choice of a word that is then said on, as in relays_of. Where there is nobody to say it on to, it leads to goal.
def passed_on(others, word, start, goal):
    return (word, NONE, start if len(others) > 0 else goal)


def shifted(places, by):
    numbers = [number + by for number in range(len(places))]
    return [renumbered(place, numbers) for place in places]


# The places that are no ends, in order. What led to an end leads to the number behind the last of them.
def without_ends(places):
    kept = [number for number in range(len(places)) if places[number] != END]
    numbers = [len(kept) for place in places]
    for number, old in enumerate(kept):
        numbers[old] = number
    return [renumbered(places[old], numbers) for old in kept]
