"""Parts alone: the grammar that is made of them, or a run on which they fail.

A standing is a pair: the numbers of all hands' states, as a tuple, and the hand that said last.
"""

from parleyturn.grammars import END
from parleyturn.halls import choice_of
from parleyturn.parts import ahead_of_turns
from parleyturn.standing import lets, run_to


def made(parts):
    start = (tuple([0 for part in parts]), len(parts) - 1)
    came = {start: None}
    standings = [start]
    looked_at = 0
    while looked_at < len(standings):
        here = standings[looked_at]
        if is_stuck(parts, here):
            return ("stuck", run_to(came, here))
        for said, following in steps_from(parts, here):
            if following is None:
                return ("unheard", run_to(came, here) + (said,))
            if following not in came:
                came[following] = (here, said)
                standings.append(following)
        looked_at += 1
    places = places_of(parts, standings)
    left = left_in(parts, standings, places)
    if left is not None:
        return ("left", run_to(came, left[0]), left[1])
    return ("grammar", (len(parts), places))


def states_in(parts, standing):
    return [part[number] for part, number in zip(parts, standing[0])]


def is_ready(states, hand):
    state = states[hand]
    # Parts alone may name a hand that is not there.
    if state[0] != "says" or not 0 <= state[1] < len(states):
        return False
    return states[state[1]][:2] == ("hears", hand)


# The hand that says next; None where no hand is ready.
def next_to_say(states, last):
    for step in range(1, len(states) + 1):
        hand = (last + step) % len(states)
        if is_ready(states, hand):
            return hand
    return None


def is_stuck(parts, standing):
    states = states_in(parts, standing)
    return next_to_say(states, standing[1]) is None and any([state != END for state in states])


# For each word that can be said next the pair of who says it and the word, and the standing to which it leads; None
# in its place where the word is not heard.
def steps_from(parts, standing):
    states = states_in(parts, standing)
    one = next_to_say(states, standing[1])
    if one is None:
        return []
    other = states[one][1]
    steps = []
    for choice in states[one][2]:
        following = None
        if lets(states[other], choice):
            numbers = list(standing[0])
            numbers[one] = choice[2]
            numbers[other] = choice_of(states[other], choice[0])[2]
            following = (tuple(numbers), one)
        steps.append(((one, choice[0]), following))
    return steps


def places_of(parts, standings):
    numbers = {}
    for number, standing in enumerate(standings):
        numbers[standing] = number
    return tuple([place_at(parts, standing, numbers) for standing in standings])


def place_at(parts, standing, numbers):
    states = states_in(parts, standing)
    one = next_to_say(states, standing[1])
    if one is None:
        return END
    steps = steps_from(parts, standing)
    choices = [(choice[0], choice[1], numbers[step[1]]) for choice, step in zip(states[one][2], steps)]
    return ("say", one, states[one][1], tuple(choices))


# A standing in which a hand has not ended, though it neither says nor hears any more, and the hand; None where there
# is none.
def left_in(parts, standings, places):
    for hand in range(len(parts)):
        ahead = ahead_of_turns(places, hand)
        for number, standing in enumerate(standings):
            if number not in ahead and states_in(parts, standing)[hand] != END:
                return (standing, hand)
    return None
