"""Time: when words are said and heard, and how long a hand may have to wait.

A word comes late by a row of delays, each of which makes the next one later. Whatever a hand has learned of when it
begins to wait, by words that were said since, from whomever, had happened by then. So only delays of which it has not
learned make it wait, and it waits longest where these are as great as may be, and all others 0: as long as the longest
row of delays of which it has not learned, up to the word for which it waits.
"""

from parleyturn.errors import NoEnd, NoPart
from parleyturn.grammars import END, choices_at, comings, led_to
from parleyturn.halls import choice_of
from parleyturn.kinds import first_value
from parleyturn.parts import is_fair, is_turn, part_of


def clocked(grammar, way, delays):
    times = [0 for hand in range(grammar[0])]
    told = []
    for place, delay in zip(places_on(grammar, way), delays):
        times = times_behind(times, place, delay)
        told.append((times[place[1]], times[place[2]]))
    return tuple(told)


# The places at which the words of a way are said.
def places_on(grammar, way):
    places = []
    number = 0
    for word, value in way:
        places.append(grammar[1][number])
        number = led_to(grammar[1][number], word, value)
    return places


# The hands' times when something was said and heard at a place.
def times_behind(times, place, delay):
    told = list(times)
    told[place[1]] += delay[0]
    told[place[2]] = max(told[place[2]], told[place[1]] + delay[1])
    return told


def longest(grammar, wait, travel):
    places = grammar[1]
    order = in_order(places)
    # By place, the greatest time of each hand on some way there. Ways that make unlike hands late are put together,
    # since each time that is told grows out of one time alone.
    latest = {0: [0 for hand in range(grammar[0])]}
    for here in order:
        if places[here] != END:
            times = times_behind(latest[here], places[here], (wait, travel))
            for choice in places[here][3]:
                known = latest.get(choice[2], times)
                latest[choice[2]] = [max(pair) for pair in zip(known, times)]
    return max([max(latest[number]) for number in order if places[number] == END])


# The numbers of the places to which one comes, each one behind all that lead to it.
def in_order(places):
    reached = comings(places, 0)
    # By place, how many choices lead there from places that are not in the order yet.
    leading = {}
    for number in reached:
        for choice in choices_at(places[number]):
            leading[choice[2]] = leading.get(choice[2], 0) + 1
    order = []
    free = [] if 0 in leading else [0]
    while len(free) > 0:
        number = free.pop()
        order.append(number)
        for choice in choices_at(places[number]):
            leading[choice[2]] -= 1
            if leading[choice[2]] == 0:
                free.append(choice[2])
    if len(order) < len(reached):
        raise NoEnd("a way goes on for ever")
    return order


def patience(grammar, hand, wait, travel):
    return tuple([None if told is None else told[0] for told in longest_waits(grammar, hand, wait, travel)])


def slowest(grammar, hand, state, wait, travel):
    said = longest_waits(grammar, hand, wait, travel)[state][1]
    words = []
    while said is not None:
        words.append(said[1])
        said = said[0]
    way = tuple(reversed(words))
    return (way, slowing(grammar, hand, way, wait, travel))


# For each state in which the hand hears, the greatest time that it waits there, and what was said until then, as in
# keep; None for the other states. At each place the longest rows of delays are known of which the hand has not
# learned, by the hand's state, who has learned of the row's first delay, and the hand at which the row stands, or None
# where no row has begun: whoever has learned of the first one can let the hand learn of it.
def longest_waits(grammar, hand, wait, travel):
    places = grammar[1]
    order = in_order(places)
    if not is_fair(grammar):
        raise NoPart("not all hands have parts")
    part = part_of(grammar, hand)
    waits = {}
    rows = {}
    for number in order:
        rows[number] = {}
    rows[0][(0, tuple([False for other in range(grammar[0])]), None)] = (0, None)
    for here in order:
        place = places[here]
        for key, row in list(rows[here].items()):
            if place != END and place[2] == hand and key[2] in (None, place[1]):
                keep(waits, key[0], row, wait + travel, place[3][0])
            for choice in choices_at(place):
                state = choice_of(part[key[0]], choice[0])[2] if is_turn(place, hand) else key[0]
                for late, at, more in rows_behind(key[1], key[2], place, hand, (wait, travel)):
                    keep(rows[choice[2]], (state, late, at), row, more, choice)
    return [waits.get(state) for state in range(len(part))]


# Notes a row that goes on from another one, if it is longer than what is known: its length, and what was said until
# then, a pair of what was said ahead of it and (word, value), or None where nothing was.
def keep(known, key, row, more, choice):
    length = row[0] + more
    if key not in known or known[key][0] < length:
        known[key] = (length, (row[1], (choice[0], first_value(choice[1]))))


# What may become of a row where something is said at a place ahead of that for which the hand waits: triples of who
# has learned of its first delay then, where it stands, and by how much it is longer. There are none where the hand
# would learn of it.
def rows_behind(late, at, place, hand, delay):
    one = place[1]
    other = place[2]
    if other == hand:
        return [] if late[one] else [(late, at, 0)]
    if at is None:
        return [(late, None, 0)] + rows_begun(late, one, other, hand, delay)
    if late[one]:
        late = told_to(late, other)
    if at == one:
        return [(late, one, delay[0]), (late, other, sum(delay))]
    return [(late, at, 0)]


# A row begins with the wait of the one who says something, so that this one has learned of it too, or with the travel.
def rows_begun(late, one, other, hand, delay):
    heard = told_to(late, other)
    if one == hand:
        return [(heard, other, delay[1])]
    both = told_to(heard, one)
    return [(heard, other, delay[1]), (both, one, delay[0]), (both, other, sum(delay))]


def told_to(late, hand):
    return tuple([late[other] or other == hand for other in range(len(late))])


# Delays by which the hand waits longest for the last word of a way: 0 for all of which it has learned when it begins
# to wait. Going back, those are known of whom it has learned all that they did until then.
def slowing(grammar, hand, way, wait, travel):
    known = {hand: True}
    delays = [(wait, travel)]
    for place in reversed(places_on(grammar, way)[:-1]):
        if place[2] in known:
            known[place[1]] = True
        delays.append((0 if place[1] in known else wait, 0 if place[2] in known else travel))
    return tuple(reversed(delays))
