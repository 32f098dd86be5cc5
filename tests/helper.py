"""What several test files need: things of all sorts, kinds with their values, grammars, and runs of halls."""

from functools import lru_cache
from itertools import product

END = ("end",)
NONE = ("none",)
DIGIT = ("number", 0, 9)
SIDE = ("name", ("lef", "rig"))


def nested(inner, levels, wrap):
    for level in range(levels):
        inner = wrap(inner)
    return inner


def rows_around(kind, levels, most=1):
    return nested(kind, levels, lambda inner: ("row", inner, most))


def shown(thing, levels=8):
    """A thing as a text, cut off below some levels: written out whole, some of the odd things have no end."""
    if not isinstance(thing, (tuple, list)):
        return repr(thing)
    inside = ", ".join(shown(part, levels - 1) for part in thing) if levels else ".."
    return ("(%s)" if isinstance(thing, tuple) else "[%s]") % inside


# Things that are neither kinds nor grammars, whatever is asked of them.
ODD_THINGS = (
    None, True, False, 0, 1, -7, 10 ** 30, "", "none", "end", "number", "~ !",
    (), [], ((),), [[]], ([],), (None,), (True,), (0,), ("",), ("nun",), ("None",), (("none",),), (["none"],),
    ["none"], ["end"], ("none", "none"), (None, None), ("none", None), "no", ("no", "ne"),
    nested((), 30, lambda inner: (inner,)), nested([], 30, lambda inner: [inner]),
    nested("none", 30, lambda inner: (inner, inner)), nested(("none",), 30, lambda inner: ("row", inner, 3)),
    nested(("none",), 30, lambda inner: ("pair", inner, inner)), nested(7, 30, lambda inner: [inner, (inner,)]),
)


def values_of(kind):
    """All values of a small kind, by counting them out."""
    if kind[0] == "none":
        return [None]
    if kind[0] == "number":
        return list(range(kind[1], kind[2] + 1))
    if kind[0] == "name":
        return list(kind[1])
    if kind[0] == "pair":
        return list(product(values_of(kind[1]), values_of(kind[2])))
    inner = values_of(kind[1])
    return [row for length in range(kind[2] + 1) for row in product(inner, repeat=length)]


def small_kinds():
    """Kinds of all sorts and up to two deep, each with few values."""
    plain = [
        NONE, ("number", 0, 1), ("number", 1, 2), ("number", 0, 2), ("number", -3, -3),
        ("name", ("a",)), ("name", ("a", "b")), ("name", ("b", "c")),
    ]
    pairs = [("pair", one, other) for one in plain for other in plain]
    rows = [("row", inner, most) for inner in plain for most in range(4)]
    few = pairs[::9] + rows[::5] + [("row", ("number", 0, 1), 2), ("row", ("name", ("b",)), 0)]
    deep_pairs = [("pair", one, other) for one in few[::2] for other in (plain[1], few[0], few[-2])]
    deep_rows = [("row", inner, most) for inner in few for most in (0, 1, 2) if len(values_of(inner)) < 10]
    return plain + pairs + rows + deep_pairs + deep_rows


def is_plain(thing):
    """Whether a thing is made of tuples, texts, whole numbers, truths and None alone."""
    if isinstance(thing, tuple):
        return all(is_plain(part) for part in thing)
    return thing is None or isinstance(thing, (int, str))


# Hand 0 asks hand 1 for a price; hand 1 tells it, or says no; at a price hand 0 haggles,
# leaves, or takes it, and then tells hand 2 what to bring.
TRADE = (3, (
    ("say", 0, 1, (("ask", SIDE, 1),)),
    ("say", 1, 0, (("is", DIGIT, 2), ("no", NONE, 4))),
    ("say", 0, 1, (("bid", DIGIT, 1), ("bye", NONE, 4), ("yes", NONE, 3))),
    ("say", 0, 2, (("go", ("row", SIDE, 2), 4),)),
    ("end",),
))


def chain(length, hands=2):
    """A grammar of length places, each but the last one said by hand 0 and leading to the next one."""
    says = [("say", 0, 1, (("on", NONE, number + 1),)) for number in range(length - 1)]
    return (hands, tuple(says) + (("end",),))


# As TRADE, but hand 2 hears from hand 0 however it ends, so that each hand has its part.
MARKET = (3, (
    ("say", 0, 1, (("ask", SIDE, 1),)),
    ("say", 1, 0, (("is", DIGIT, 2), ("no", NONE, 4))),
    ("say", 0, 1, (("bid", DIGIT, 1), ("bye", NONE, 4), ("yes", NONE, 3))),
    ("say", 0, 2, (("go", ("row", SIDE, 2), 5),)),
    ("say", 0, 2, (("off", NONE, 5),)),
    END,
))


def say(one, other, *choices):
    """A place, its choices written as (word, next), of the kind none, or as (word, kind, next)."""
    triples = [choice if len(choice) == 3 else (choice[0], NONE, choice[1]) for choice in choices]
    return ("say", one, other, tuple(triples))


def is_turn(place, hand):
    return place != END and hand in place[1:3]


def nexts(place):
    return {choice[2] for choice in place[3]} if place != END else set()


def reached(grammar, starts, stop=lambda place: False):
    """The numbers of starts, and of all places to which one comes from them along choices at places of no stop."""
    found = set()
    waiting = set(starts)
    while waiting:
        found |= waiting
        waiting = {
            number for start in waiting if not stop(grammar[1][start]) for number in nexts(grammar[1][start])
        } - found
    return frozenset(found)


def is_even(grammar, hand, group):
    """Whether a set of places with turns of the hand is even, by the words of 3.1."""
    def own(place):
        return is_turn(place, hand)
    turns = [grammar[1][number] for number in group if own(grammar[1][number])]
    if not all(any(own(grammar[1][end]) for end in reached(grammar, {number}, own)) for number in group):
        return False
    if all(turn[1] == hand for turn in turns):
        return len({(turn[2], tuple(choice[:2] for choice in turn[3])) for turn in turns}) == 1
    if all(turn[2] == hand for turn in turns):
        kinds = {choice[:2] for turn in turns for choice in turn[3]}
        return len({turn[1] for turn in turns}) == 1 and len({word for word, kind in kinds}) == len(kinds)
    return False


@lru_cache(maxsize=None)
def part_by_sets(grammar, hand):
    """The part of a hand, set by set as in 3.1 and 3.2; None where a set is not even."""
    def own(place):
        return is_turn(place, hand)
    groups = [reached(grammar, {0}, own)]
    states = []
    while len(states) < len(groups):
        group = groups[len(states)]
        turns = [grammar[1][number] for number in group if own(grammar[1][number])]
        if not turns:
            states.append(END)
            continue
        if not is_even(grammar, hand, group):
            return None
        choices = []
        for word, kind in sorted({choice[:2] for turn in turns for choice in turn[3]}):
            led = {choice[2] for turn in turns for choice in turn[3] if choice[0] == word}
            following = reached(grammar, led, own)
            if following not in groups:
                groups.append(following)
            choices.append((word, kind, groups.index(following)))
        role = ("says", turns[0][2]) if turns[0][1] == hand else ("hears", turns[0][1])
        states.append(role + (tuple(choices),))
    return tuple(states)


def is_fair_by_sets(grammar):
    return all(part_by_sets(grammar, hand) is not None for hand in range(grammar[0]))


class Dice:
    """Throws that come the same each time, under each Python."""

    def __init__(self, seed):
        self.at = seed

    def below(self, bound):
        self.at = (self.at * 6364136223846793005 + 1442695040888963407) % 2 ** 64
        return (self.at >> 33) % bound

    def one_of(self, things):
        return things[self.below(len(things))]


MADE_KINDS = (NONE, NONE, NONE, NONE, ("number", 0, 2), SIDE, ("row", SIDE, 1))


def made_choice(dice, word, count):
    return (word, dice.one_of(MADE_KINDS), dice.below(count))


def made_say(dice, hands, count):
    one = dice.below(hands)
    other = (one + 1 + dice.below(hands - 1)) % hands
    words = dice.one_of(("a", "b", "ab", "ac", "bc", "abc"))
    return ("say", one, other, tuple(made_choice(dice, word, count) for word in words))


def made_grammar(dice, hands, count):
    places = [END if dice.below(4) == 0 else made_say(dice, hands, count) for number in range(count)]
    return (hands, tuple(places))


def with_place(grammar, number, place):
    return (grammar[0], grammar[1][:number] + (place,) + grammar[1][number + 1:])


def with_choices(grammar, number, choices):
    return with_place(grammar, number, grammar[1][number][:3] + (tuple(sorted(choices)),))


def put_ahead(dice, grammar, number):
    """Something is said ahead of a place, and leads there, mostly."""
    copied = len(grammar[1])
    grammar = (grammar[0], grammar[1] + (grammar[1][number],))
    grammar = with_place(grammar, number, made_say(dice, grammar[0], copied + 1))
    choices = [(word, kind, dice.one_of((copied, copied, to))) for word, kind, to in grammar[1][number][3]]
    return with_choices(grammar, number, choices)


def split(dice, grammar, number):
    """Some of what led to a place leads to one like it."""
    copied = len(grammar[1])
    grammar = (grammar[0], grammar[1] + (grammar[1][number],))
    for source, place in enumerate(grammar[1]):
        if number in nexts(place):
            choices = [(word, kind, dice.one_of((copied, to)) if to == number else to) for word, kind, to in place[3]]
            grammar = with_choices(grammar, source, choices)
    return grammar


def changed(dice, grammar):
    """A grammar with one change, somewhere."""
    number = dice.below(len(grammar[1]))
    change = dice.below(5)
    if change == 0 or grammar[1][number] == END:
        return put_ahead(dice, grammar, number)
    if change == 1:
        return split(dice, grammar, number)
    choices = list(grammar[1][number][3])
    spot = dice.below(len(choices))
    if change == 2:
        choices[spot] = choices[spot][:2] + (dice.below(len(grammar[1])),)
    elif change == 3 and len(choices) > 1:
        choices.pop(spot)
    else:
        words = [word for word in "abcd" if word not in [choice[0] for choice in choices]]
        choices += [made_choice(dice, word, len(grammar[1])) for word in words[:1]]
    return with_choices(grammar, number, choices)


def trimmed(grammar):
    """The places alone to which one comes."""
    kept = sorted(reached(grammar, {0}))
    places = []
    for number in kept:
        place = grammar[1][number]
        if place != END:
            place = place[:3] + (tuple((word, kind, kept.index(to)) for word, kind, to in place[3]),)
        places.append(place)
    return (grammar[0], tuple(places))


def grown_grammar(dice, hands, changes, most, ends):
    """A fair grammar with at most so many places, grown out of an end; one can still come to an end if it ends."""
    grammar = (hands, (END,))
    for change in range(changes):
        told = trimmed(changed(dice, grammar))
        if len(told[1]) <= most and (END in told[1] or not ends) and is_fair_by_sets(told):
            grammar = told
    return grammar


@lru_cache(maxsize=None)
def fair_grammars():
    """Fair grammars of 2 to 4 hands, each hand of which has something to do."""
    dice = Dice(7)
    grammars = [MARKET]
    for round_number in range(30):
        for hands in (2, 3, 3, 4, 4):
            grammar = grown_grammar(dice, hands, 30 + dice.below(60), 14, dice.below(3) > 0)
            if {hand for place in grammar[1] if place != END for hand in place[1:3]} == set(range(hands)):
                grammars.append(grammar)
    return tuple(grammars)


def goes_round(grammar):
    """Whether some way goes on for ever."""
    places = grammar[1]
    return any(number in reached(grammar, nexts(places[number])) for number in reached(grammar, {0}))


@lru_cache(maxsize=None)
def ending_grammars():
    """Fair grammars of 2 to 4 hands, no way of which goes on for ever."""
    dice = Dice(13)
    grammars = []
    for round_number in range(40):
        for hands in (2, 3, 3, 4, 4):
            grammar = (hands, (END,))
            for change in range(10 + dice.below(50)):
                told = trimmed(changed(dice, grammar))
                if len(told[1]) <= 12 and not goes_round(told) and is_fair_by_sets(told):
                    grammar = told
            # Several ends in the place of one keep it fair.
            if dice.below(2):
                grammar = trimmed(split(dice, grammar, grammar[1].index(END)))
            grammars.append(grammar)
    return tuple(grammars)


@lru_cache(maxsize=None)
def made_grammars():
    """Grammars of all sorts, fair ones and such that are not."""
    dice = Dice(11)
    grammars = [TRADE]
    for round_number in range(900):
        grammars.append(made_grammar(dice, dice.one_of((2, 3, 3, 4, 4)), 1 + dice.below(8)))
    for grammar in fair_grammars():
        for round_number in range(3):
            grammars.append(changed(dice, grammar))
        grammars.append(grammar)
    return tuple(grammars)


def made_way(dice, grammar, length):
    """A way of at most this length, with all sorts of values."""
    way = []
    number = 0
    while len(way) < length and grammar[1][number] != END:
        word, kind, number = dice.one_of(grammar[1][number][3])
        way.append((word, dice.one_of(values_of(kind))))
    return tuple(way)


def made_numbers(dice, count, fixed=0):
    """The numbers below count in some order, the first ones fixed."""
    numbers = list(range(count))
    for spot in range(count - 1, fixed, -1):
        other = fixed + dice.below(spot - fixed + 1)
        numbers[spot], numbers[other] = numbers[other], numbers[spot]
    return tuple(numbers)


def made_move(dice, hall, parts, late=None):
    """One of the moves that can be done now, whole: ("hear", hand) or ("say", hand, word, value); late's at last."""
    moves = hall.can()
    move = dice.one_of([move for move in moves if move[1] != late] or moves)
    if move[0] == "hear":
        return move
    kinds = {word: kind for word, kind, state in parts[move[1]][hall.state(move[1])][2]}
    return move + (dice.one_of(values_of(kinds[move[2]])),)


def moves_on(grammar, hand, way):
    """What a hand does on a way, as moves."""
    moves = []
    number = 0
    for word, value in way:
        place = grammar[1][number]
        if place[1] == hand:
            moves.append(("say", hand, word, value))
        if place[2] == hand:
            moves.append(("hear", hand))
        number = {choice[0]: choice[2] for choice in place[3]}[word]
    return moves


class Written:
    """What 4.1 and 4.2 tell of a hall in which the hands go by these parts, step by step."""

    def __init__(self, parts):
        self.hands = len(parts)
        self.parts = parts
        self.at = [0] * self.hands
        self.logs = [()] * self.hands
        self.mail = {(one, other): () for one in range(self.hands) for other in range(self.hands)}

    def do(self, move):
        hand = move[1]
        role, partner, choices = self.parts[hand][self.at[hand]]
        if move[0] == "say":
            letter = move[2:]
            self.mail[hand, partner] += (letter,)
        else:
            letter, self.mail[partner, hand] = self.mail[partner, hand][0], self.mail[partner, hand][1:]
        self.logs[hand] += ((role, partner) + letter,)
        self.at[hand] = {word: state for word, kind, state in choices}[letter[0]]
        return None if move[0] == "say" else (partner,) + letter

    def told(self):
        hears = []
        says = []
        for hand, state in enumerate(self.at):
            here = self.parts[hand][state]
            if here[0] == "hears" and self.mail[here[1], hand]:
                hears.append(("hear", hand))
            if here[0] == "says":
                says.extend(("say", hand, word) for word, kind, to in here[2])
        over = all(self.parts[hand][state] == END for hand, state in enumerate(self.at)) and not any(self.mail.values())
        mail = tuple(self.mail[one, other] for one in range(self.hands) for other in range(self.hands))
        return (tuple(self.at), tuple(self.logs), mail, tuple(sorted(hears) + sorted(says)), over)


def do(hall, move):
    if move[0] == "hear":
        return hall.hear(*move[1:])
    return hall.say(*move[1:])


def all_told(hall, hands):
    """All that can be asked of a hall, but for its way."""
    return (
        tuple(hall.state(hand) for hand in range(hands)),
        tuple(hall.done(hand) for hand in range(hands)),
        tuple(hall.under_way(one, other) for one in range(hands) for other in range(hands)),
        hall.can(),
        hall.is_over(),
    )


def narrower(dice, kind):
    """A kind that lies within another one."""
    if kind[0] == "number" and kind[1] < kind[2]:
        return dice.one_of((kind, ("number", kind[1] + 1, kind[2]), ("number", kind[1], kind[2] - 1)))
    if kind[0] == "name" and len(kind[1]) > 1:
        return dice.one_of((kind, ("name", kind[1][1:]), ("name", kind[1][:-1])))
    if kind[0] == "row" and kind[2] > 0:
        return dice.one_of((kind, ("row", kind[1], kind[2] - 1), ("row", narrower(dice, kind[1]), kind[2])))
    if kind[0] == "pair":
        return ("pair", narrower(dice, kind[1]), narrower(dice, kind[2]))
    return kind


def wider(dice, kind):
    """A kind within which another one lies."""
    if kind[0] == "number":
        return dice.one_of((kind, ("number", kind[1] - 1, kind[2]), ("number", kind[1], kind[2] + 1)))
    if kind[0] == "name":
        return dice.one_of((kind, ("name", tuple(sorted(kind[1] + ("mid",))))))
    if kind[0] == "row":
        return dice.one_of((kind, ("row", kind[1], kind[2] + 1), ("row", wider(dice, kind[1]), kind[2])))
    if kind[0] == "pair":
        return ("pair", wider(dice, kind[1]), wider(dice, kind[2]))
    return kind


def reordered(dice, part):
    """The part with its states in another order, state 0 still the first one."""
    numbers = made_numbers(dice, len(part), fixed=1)
    states = [None] * len(part)
    for number, state in enumerate(part):
        if state != END:
            state = state[:2] + (tuple((word, kind, numbers[to]) for word, kind, to in state[2]),)
        states[numbers[number]] = state
    return tuple(states)


def doubled(dice, part):
    """A part that does the same, with each state twice: words lead to the one or the other."""
    states = []
    for state in part * 2:
        if state != END:
            choices = [(word, kind, dice.one_of((to, to + len(part)))) for word, kind, to in state[2]]
            state = state[:2] + (tuple(choices),)
        states.append(state)
    return tuple(states)


def lesser_state(dice, state, count):
    if state == END:
        return END
    choices = list(state[2])
    if state[0] == "says":
        while len(choices) > 1 and dice.below(2):
            choices.pop(dice.below(len(choices)))
        choices = [(word, narrower(dice, kind), to) for word, kind, to in choices]
    else:
        choices = [(word, wider(dice, kind), to) for word, kind, to in choices]
        known = [choice[0] for choice in choices]
        choices += [made_choice(dice, word, count) for word in ("b", "mor", "n") if word not in known and dice.below(2)]
    return state[:2] + (tuple(sorted(choices)),)


def lesser(dice, part):
    """A part that stands for another one: it says less, and hears more, and its states stand in another order."""
    if dice.below(2):
        part = doubled(dice, part)
    return reordered(dice, tuple(lesser_state(dice, state, len(part)) for state in part))


def parts_of(grammar):
    return tuple(part_by_sets(grammar, hand) for hand in range(grammar[0]))
