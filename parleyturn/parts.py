"""Parts: what a hand knows of a grammar at each time, or two ways that it can't tell apart.

Whether a hand has a part is asked of pairs of places to which one comes while the hand does the same: a set as in
3.1 is even just if each two of its places agree, and pairs of places are far fewer than sets of them may be.
"""

from parleyturn.errors import NoPart
from parleyturn.grammars import END, choices_at
from parleyturn.kinds import first_value


def is_turn(place, hand):
    return place != END and (place[1] == hand or place[2] == hand)


def role_at(turn, hand):
    if turn[1] == hand:
        return ("says", turn[2])
    return ("hears", turn[1])


def kinds_at(turn):
    kinds = {}
    for word, kind, number in turn[3]:
        kinds[word] = kind
    return kinds


def are_even(one, other, hand):
    if role_at(one, hand) != role_at(other, hand):
        return False
    kinds = kinds_at(one)
    others = kinds_at(other)
    if one[1] == hand:
        return kinds == others
    return all([kinds[word] == others[word] for word in kinds if word in others])


# The places from which one can come to a turn of the hand, as the keys of a dict.
def ahead_of_turns(places, hand):
    sources = [[] for place in places]
    for number, place in enumerate(places):
        for choice in choices_at(place):
            sources[choice[2]].append(number)
    ahead = {}
    waiting = [number for number in range(len(places)) if is_turn(places[number], hand)]
    while len(waiting) > 0:
        number = waiting.pop()
        if number not in ahead:
            ahead[number] = True
            waiting.extend(sources[number])
    return ahead


def reason(grammar, hand):
    places = grammar[1]
    ahead = ahead_of_turns(places, hand)
    came = {(0, 0): None}
    pairs = [(0, 0)]
    looked_at = 0
    while looked_at < len(pairs):
        pair = pairs[looked_at]
        fault = fault_of(places, hand, ahead, pair)
        if fault is not None:
            return (fault, way_back(came, pair, 0), way_back(came, pair, 1))
        for following, said in steps_from(places, hand, ahead, pair):
            if following not in came:
                came[following] = (pair, said)
                pairs.append(following)
        looked_at += 1
    return None


def fault_of(places, hand, ahead, pair):
    one = places[pair[0]]
    other = places[pair[1]]
    if not is_turn(other, hand):
        return None
    if pair[0] not in ahead:
        return "never"
    if is_turn(one, hand) and not are_even(one, other, hand):
        return "unlike"
    return None


# The steps from a pair without a fault: each is a pair of places and what is said to come there, (word, kind) or
# None, on the one way and on the other. The first place goes on until it is a turn, or there is none any more behind
# it; only then does the second one, so that two ways are not gone in each order.
def steps_from(places, hand, ahead, pair):
    one = places[pair[0]]
    other = places[pair[1]]
    if pair[1] not in ahead:
        return []
    if pair[0] in ahead and not is_turn(one, hand):
        return [((number, pair[1]), ((word, kind), None)) for word, kind, number in one[3]]
    if not is_turn(other, hand):
        return [((pair[0], number), (None, (word, kind))) for word, kind, number in other[3]]
    return common_steps(one, other)


def common_steps(one, other):
    nexts = {}
    for word, kind, number in other[3]:
        nexts[word] = number
    return [((number, nexts[word]), ((word, kind), (word, kind))) for word, kind, number in one[3] if word in nexts]


def way_back(came, pair, side):
    way = []
    while came[pair] is not None:
        said = came[pair][1][side]
        if said is not None:
            way.append((said[0], first_value(said[1])))
        pair = came[pair][0]
    return tuple(reversed(way))


# The numbers of the places that lie apart for the hand from some places, and of these, rising.
def apart_from(places, hand, starts):
    found = {}
    waiting = list(starts)
    while len(waiting) > 0:
        number = waiting.pop()
        if number not in found:
            found[number] = True
            if not is_turn(places[number], hand):
                waiting.extend([choice[2] for choice in choices_at(places[number])])
    return tuple(sorted(found))


# For each word of some turns its kind, and the places to which it leads from them.
def leads_of(turns):
    leads = {}
    for turn in turns:
        for word, kind, number in turn[3]:
            lead = leads.setdefault(word, (kind, []))
            lead[1].append(number)
    return leads


def part_of(grammar, hand):
    if reason(grammar, hand) is not None:
        raise NoPart("the hand can't tell two ways apart, though it would have to do unlike things")
    places = grammar[1]
    groups = [apart_from(places, hand, [0])]
    numbers = {groups[0]: 0}
    states = []
    while len(states) < len(groups):
        states.append(state_of(places, hand, groups[len(states)], groups, numbers))
    return tuple(states)


# Sets to which one first comes from this one are put behind the others, in groups, and numbered.
def state_of(places, hand, group, groups, numbers):
    turns = [places[number] for number in group if is_turn(places[number], hand)]
    if len(turns) == 0:
        return END
    leads = leads_of(turns)
    choices = []
    for word in sorted(leads):
        following = apart_from(places, hand, leads[word][1])
        if following not in numbers:
            numbers[following] = len(groups)
            groups.append(following)
        choices.append((word, leads[word][0], numbers[following]))
    return role_at(turns[0], hand) + (tuple(choices),)


def is_fair(grammar):
    return all([reason(grammar, hand) is None for hand in range(grammar[0])])
