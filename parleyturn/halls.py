"""Halls: talks under way, in which letters come late.

The refusals show nothing of what was handed in: written out, a number may be too long, and a value without end.
"""

from parleyturn.errors import NoMove
from parleyturn.grammars import END
from parleyturn.kinds import is_value
from parleyturn.parts import part_of


# The triple of a word among the choices of a state; None where it is none of them.
def choice_of(state, word):
    for choice in state[2]:
        if choice[0] == word:
            return choice
    return None


class Hall:
    def __init__(self, grammar):
        self.grammar = grammar
        self.parts = [part_of(grammar, hand) for hand in range(grammar[0])]
        self.states = [0 for part in self.parts]
        self.doings = [[] for part in self.parts]
        # By (one, other), the letters from one to other, the first one first.
        self.letters = {}

    def say(self, hand, word, value):
        state = self.state_now(hand)
        if state[0] != "says":
            raise NoMove("the hand doesn't say anything now")
        choice = choice_of(state, word)
        if choice is None:
            raise NoMove("the hand doesn't say this word now")
        if not is_value(choice[1], value):
            raise NoMove("the value is not of the word's kind")
        self.letters.setdefault((hand, state[1]), []).append((word, value))
        self.doings[hand].append(("says", state[1], word, value))
        self.states[hand] = choice[2]

    def hear(self, hand):
        state = self.state_now(hand)
        if not self.has_mail(hand):
            raise NoMove("the hand doesn't hear now, or nothing is under way from the one it hears from")
        one = state[1]
        letter = self.letters[(one, hand)].pop(0)
        self.doings[hand].append(("hears", one) + letter)
        self.states[hand] = choice_of(state, letter[0])[2]
        return (one,) + letter

    def state(self, hand):
        self.look_for(hand)
        return self.states[hand]

    def under_way(self, one, other):
        self.look_for(one)
        self.look_for(other)
        return tuple(self.letters.get((one, other), []))

    def done(self, hand):
        self.look_for(hand)
        return tuple(self.doings[hand])

    def can(self):
        moves = [("hear", hand) for hand in range(len(self.parts)) if self.has_mail(hand)]
        for hand in range(len(self.parts)):
            state = self.state_now(hand)
            if state[0] == "says":
                moves.extend([("say", hand, choice[0]) for choice in state[2]])
        return tuple(moves)

    def is_over(self):
        if any([len(letters) > 0 for letters in self.letters.values()]):
            return False
        return all([self.state_now(hand) == END for hand in range(len(self.parts))])

    # A number below 0 would else be taken for a hand from behind.
    def look_for(self, hand):
        if not 0 <= hand < len(self.parts):
            raise NoMove("the hand is not there")

    def state_now(self, hand):
        self.look_for(hand)
        return self.parts[hand][self.states[hand]]

    # Whether the hand hears now, and something is under way from the one it hears from.
    def has_mail(self, hand):
        state = self.state_now(hand)
        return state[0] == "hears" and len(self.letters.get((state[1], hand), [])) > 0
