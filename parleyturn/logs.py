"""What hands wrote down: whether all kept to the grammar, and by which way, or who did not."""

from parleyturn.halls import choice_of
from parleyturn.kinds import is_value
from parleyturn.parts import part_of
from parleyturn.ways import way_along


def judge(grammar, logs):
    # All parts come first, so that a grammar that is not fair is refused whatever the logs say.
    parts = [part_of(grammar, hand) for hand in range(grammar[0])]
    for hand, part in enumerate(parts):
        wrong = first_wrong(part, logs[hand])
        if wrong is not None:
            return ("broke", hand, wrong)
    for one in range(grammar[0]):
        for other in range(grammar[0]):
            unsaid = first_unsaid(letters_of(logs[one], "says", other), letters_of(logs[other], "hears", one))
            if unsaid is not None:
                return ("unheard", one, other, unsaid)
    return ("way", way_along(grammar, logs))


# The number of the first doing that the part doesn't let its hand do; None where it lets it do all.
def first_wrong(part, log):
    number = 0
    for k, doing in enumerate(log):
        number = led_by(part[number], doing)
        if number is None:
            return k
    return None


# The number of the state to which a doing leads from a state; None where it can't be done there.
def led_by(state, doing):
    if state[:2] != doing[:2]:
        return None
    choice = choice_of(state, doing[2])
    if choice is None or not is_value(choice[1], doing[3]):
        return None
    return choice[2]


# What a log says that its hand said to a partner, or heard from it, in order, as pairs (word, value).
def letters_of(log, role, partner):
    return [doing[2:] for doing in log if doing[:2] == (role, partner)]


# The number of the first word that was heard and not said as the word of this number; None where there is none.
def first_unsaid(said, heard):
    for k, letter in enumerate(heard):
        if k >= len(said) or said[k] != letter:
            return k
    return None
