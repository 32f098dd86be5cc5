"""Newer grammars: how one is offered, and how a talk that is under way is led over to it."""

from parleyturn.errors import NoOffer, NotYet
from parleyturn.grammars import END, choices_at, led_to
from parleyturn.halls import Hall, choice_of
from parleyturn.joining import all_but, passed_on, relays_of, shifted


def offer(grammar, newer, places, word):
    hands = grammar[0]
    if newer[0] != hands:
        raise NoOffer("the newer grammar has not as many hands")
    relay = len(grammar[1])
    goal = relay + len(places) * (hands - 2)
    opened = list(grammar[1])
    relays = []
    for number in places:
        place = place_to_offer(grammar[1], number, word)
        others = [hand for hand in all_but(hands, place[1]) if hand != place[2]]
        choices = place[3] + (passed_on(others, word, relay, goal),)
        opened[number] = place[:3] + (tuple(sorted(choices)),)
        relays.extend(relays_of(place[1], others, word, relay, goal))
        relay += len(others)
    return (hands, tuple(opened + relays + shifted(newer[1], goal)))


def place_to_offer(places, number, word):
    if not 0 <= number < len(places) or places[number] == END:
        raise NoOffer("nobody says anything at a place")
    if any([choice[0] == word for choice in places[number][3]]):
        raise NoOffer("the word is said at a place already")
    return places[number]


def lead_over(hall, offered):
    if not widens(hall.grammar, offered):
        raise NoOffer("the grammar is not one that was offered to the hall's grammar")
    return hall_behind(offered, logs_of(hall), hall)


# Whether offered has all places of the grammar first, and, beyond their choices, only such as lead beyond them.
def widens(grammar, offered):
    beyond = len(grammar[1])
    if offered[0] != grammar[0] or len(offered[1]) < beyond:
        return False
    return all([widens_at(place, offered[1][number], beyond) for number, place in enumerate(grammar[1])])


def widens_at(place, wider, beyond):
    if place[:3] != wider[:3]:
        return False
    older = choices_at(place)
    choices = choices_at(wider)
    if not all([choice in choices for choice in older]):
        return False
    return all([choice in older or choice[2] >= beyond for choice in choices])


def settled(hall, grammar, newer, places, word):
    offered = offer(grammar, newer, places, word)
    logs = logs_of(hall)
    gone = gone_ahead(offered, logs, len(offered[1]) - len(newer[1]))
    if gone is None:
        raise NotYet("some hand has neither said nor heard the word that was offered")
    # All that was said ahead of the newer grammar was heard ahead of it, so what is under way was said since.
    return hall_behind(newer, [log[gone[hand]:] for hand, log in enumerate(logs)], hall)


# How many doings each hand has ahead of place number start, or one beyond it; None as long as some hand has not done
# all that leads there. One goes on while what is said at a place has been heard, and so has been said: the word that
# is offered may be said elsewhere, too, so that a log alone would not tell where it was offered.
def gone_ahead(grammar, logs, start):
    gone = [0 for log in logs]
    number = 0
    while number < start:
        place = grammar[1][number]
        if place == END or gone[place[2]] == len(logs[place[2]]):
            return None
        doing = logs[place[1]][gone[place[1]]]
        gone[place[1]] += 1
        gone[place[2]] += 1
        number = led_to(place, doing[2], doing[3])
    return gone


def logs_of(hall):
    return [hall.done(hand) for hand in range(hall.grammar[0])]


# A hall of a grammar in which each hand did what its log says, and what is under way is as in another hall.
def hall_behind(grammar, logs, other):
    hall = Hall(grammar)
    hall.states = [state_behind(part, log) for part, log in zip(hall.parts, logs)]
    hall.doings = [list(log) for log in logs]
    for pair, letters in other.letters.items():
        hall.letters[pair] = list(letters)
    return hall


def state_behind(part, log):
    number = 0
    for doing in log:
        number = choice_of(part[number], doing[2])[2]
    return number
