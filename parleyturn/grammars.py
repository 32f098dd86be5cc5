"""Grammars, and ways through them.

Only is_grammar holds grammars to the bounds of 2.1. All else takes such with more
places and more choices too, as they come of grammars that are put together.
"""

from parleyturn.kinds import is_kind, is_tuple_of, is_value, is_whole_from, is_word, rises

LEAST_HANDS = 2
MOST_HANDS = 4
MOST_PLACES = 60
MOST_CHOICES = 5

END = ("end",)


def is_grammar(thing):
    if not is_tuple_of(thing, 2, 2):
        return False
    hands = thing[0]
    places = thing[1]
    if not is_whole_from(hands, LEAST_HANDS, MOST_HANDS) or not is_tuple_of(places, 1, MOST_PLACES):
        return False
    return all([is_place(place, hands, len(places)) for place in places])


def is_place(thing, hands, place_count):
    if thing == END:
        return True
    if not is_tuple_of(thing, 4, 4) or thing[0] != "say":
        return False
    if not is_whole_from(thing[1], 0, hands - 1) or not is_whole_from(thing[2], 0, hands - 1):
        return False
    return thing[1] != thing[2] and are_choices(thing[3], place_count)


def are_choices(thing, place_count):
    if not is_tuple_of(thing, 1, MOST_CHOICES):
        return False
    if not all([is_choice(choice, place_count) for choice in thing]):
        return False
    # No word stands twice, so the words alone tell whether the triples rise.
    return rises([choice[0] for choice in thing])


def is_choice(thing, place_count):
    if not is_tuple_of(thing, 3, 3):
        return False
    return is_word(thing[0]) and is_kind(thing[1]) and is_whole_from(thing[2], 0, place_count - 1)


def choices_at(place):
    if place == END:
        return ()
    return place[3]


# The number of the place to which a word with a value leads from a place; None where it can't be said there.
def led_to(place, word, value):
    for choice in choices_at(place):
        if choice[0] == word and is_value(choice[1], value):
            return choice[2]
    return None


def place_of(grammar, way):
    number = 0
    for word, value in way:
        number = led_to(grammar[1][number], word, value)
        if number is None:
            return None
    return number


def done_on(grammar, hand, way):
    doings = []
    number = 0
    for word, value in way:
        place = grammar[1][number]
        if place[1] == hand:
            doings.append(("says", place[2], word, value))
        if place[2] == hand:
            doings.append(("hears", place[1], word, value))
        number = led_to(place, word, value)
    return tuple(doings)


def renamed(grammar, hands, numbers):
    places = list(grammar[1])
    for number, place in enumerate(grammar[1]):
        places[numbers[number]] = renamed_place(place, hands, numbers)
    return (grammar[0], tuple(places))


def renamed_place(place, hands, numbers):
    if place == END:
        return END
    return ("say", hands[place[1]], hands[place[2]], renumbered(place, numbers)[3])


# The place with choices that lead to numbers[n] where they led to n.
def renumbered(place, numbers):
    if place == END:
        return END
    choices = [(word, kind, numbers[number]) for word, kind, number in place[3]]
    return place[:3] + (tuple(choices),)


# The numbers of the places to which one comes from a place, in the order of first coming, place by place, choice by
# choice, each with the least number of words that lead there.
def comings(places, start):
    steps = {start: 0}
    numbers = [start]
    looked_at = 0
    while looked_at < len(numbers):
        here = numbers[looked_at]
        for choice in choices_at(places[here]):
            if choice[2] not in steps:
                steps[choice[2]] = steps[here] + 1
                numbers.append(choice[2])
        looked_at += 1
    return steps
