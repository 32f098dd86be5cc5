"""Parts that stand for others, and halls in which hands go by such parts."""

from parleyturn.errors import NoStand
from parleyturn.halls import Hall, choice_of
from parleyturn.kinds import within


def clash(part, other):
    came = {(0, 0): None}
    pairs = [(0, 0)]
    looked_at = 0
    while looked_at < len(pairs):
        pair = pairs[looked_at]
        if not fit(part[pair[0]], other[pair[1]]):
            return run_to(came, pair)
        for word, following in common_leads(part[pair[0]], other[pair[1]]):
            if following not in came:
                came[following] = (pair, word)
                pairs.append(following)
        looked_at += 1
    return None


def stands(part, other):
    return clash(part, other) is None


def hall_with(grammar, parts):
    # A grammar that is not fair is refused ahead of any part.
    hall = Hall(grammar)
    for hand, part in enumerate(parts):
        if part is not None:
            if not stands(part, hall.parts[hand]):
                raise NoStand("a part does not stand for the hand's own part")
            hall.parts[hand] = part
    return hall


def fit(state, other):
    if state[:2] != other[:2]:
        return False
    if state[0] == "says":
        return all([lets(other, choice) for choice in state[2]])
    if state[0] == "hears":
        return all([lets(state, choice) for choice in other[2]])
    return True


# Whether the word of a choice is one of a state's, its kind lying within the kind there.
def lets(state, choice):
    own = choice_of(state, choice[0])
    return own is not None and within(choice[1], own[1])


# Each word that two states that fit both have, with the numbers of the states to which it leads.
def common_leads(state, other):
    if state[0] == "end":
        return []
    numbers = {}
    for word, kind, number in other[2]:
        numbers[word] = number
    return [(word, (number, numbers[word])) for word, kind, number in state[2] if word in numbers]


# What was said, one behind the other, to come to a thing; came tells of each one whence, and by what, one first came
# to it, and None of the one where all begins.
def run_to(came, thing):
    run = []
    while came[thing] is not None:
        run.append(came[thing][1])
        thing = came[thing][0]
    return tuple(reversed(run))
