"""Ways that tell what was done in a hall, as if one word had been said and heard behind the other."""

from parleyturn.grammars import led_to
from parleyturn.kinds import first_value


def way_of(hall):
    logs = [hall.done(hand) for hand in range(hall.grammar[0])]
    return way_along(hall.grammar, logs)


# A way on which each hand, to begin with, does what its log says; the logs must be such as come of a hall.
# In a fair grammar one can go straight on: as long as a hand has something left of its log, one comes to where it is
# done, whatever is said on the way there by hands that have nothing left.
def way_along(grammar, logs):
    places = grammar[1]
    gone = [0 for log in logs]
    way = []
    number = 0
    busy = busy_hands(logs, gone)
    while any(busy):
        path = path_to_sayer(places, number, busy)
        place = places[path[0]]
        doing = logs[place[1]][gone[place[1]]]
        way.extend(path[1])
        way.append((doing[2], doing[3]))
        gone[place[1]] += 1
        gone[place[2]] += 1
        number = led_to(place, doing[2], doing[3])
        busy = busy_hands(logs, gone)
    return tuple(way)


def busy_hands(logs, gone):
    return [gone[hand] < len(log) for hand, log in enumerate(logs)]


# The nearest place at which a busy hand says something, and what others say to come there. There is one, and no end
# on the way to it: where a hand still has a turn, each place to which one may have come without it leads to one.
def path_to_sayer(places, start, busy):
    paths = {start: ()}
    numbers = [start]
    looked_at = 0
    while not busy[places[numbers[looked_at]][1]]:
        here = numbers[looked_at]
        for word, kind, number in places[here][3]:
            if number not in paths:
                paths[number] = paths[here] + ((word, first_value(kind)),)
                numbers.append(number)
        looked_at += 1
    return (numbers[looked_at], paths[numbers[looked_at]])
