"""Points 6.1 to 6.4, what is said ahead of them, and 0.2 (e) and 0.3 of grammars put together."""

import copy
import unittest

from helper import (
    DIGIT, END, MARKET, NONE, SIDE, TRADE, Dice, all_told, chain, do, fair_grammars, is_fair_by_sets, is_plain,
    made_grammars, made_move, made_numbers, made_way, nexts, part_by_sets, reached, say,
)
from parleyturn.counts import count, soonest
from parleyturn.grammars import done_on, is_grammar, place_of, renamed
from parleyturn.halls import Hall
from parleyturn.joining import again, asked, followed, rooted
from parleyturn.logs import judge
from parleyturn.parts import is_fair, part_of, reason
from parleyturn.ways import way_of

# Of two hands: a question, and an answer that ends it or leads to another question; the ends lie all over.
TALK = (2, (
    say(0, 1, ("ask", SIDE, 2), ("out", 1)), END, say(1, 0, ("no", 0), ("so", 3), ("yes", DIGIT, 4)), END,
    say(0, 1, ("end", 3)),
))
WORDS = ("a", "b", "c", "d", "e", "f", "g", "h")


def by_name(hands, named):
    """A grammar of places that are told by name: pairs (name, place), in whose choices names stand as next ones."""
    numbers = {name: number for number, (name, place) in enumerate(named)}
    return (hands, tuple(named_place(place, numbers.get) for name, place in named))


def named_place(place, name):
    if place == END:
        return END
    return place[:3] + (tuple((word, kind, name(to)) for word, kind, to in place[3]),)


def relays(hands, leader, word, goal):
    """The places, by name, where the leader says a word on, and the name of what comes behind the first hand."""
    others = sorted(set(range(hands)) - {leader})[1:]
    names = [("on", word, other) for other in others] + [goal]
    return [
        (names[spot], say(leader, other, (word, names[spot + 1]))) for spot, other in enumerate(others)
    ], names[0]


def least_but(leader):
    return 1 if leader == 0 else 0


def asked_by_name(grammars, leader, words):
    hands = grammars[0][0]
    behind = []
    inside = []
    choices = []
    for word, grammar in zip(words, grammars):
        said_on, first = relays(hands, leader, word, (word, 0))
        choices.append((word, first))
        behind += said_on
        inside += [
            ((word, number), named_place(place, lambda to, word=word: (word, to)))
            for number, place in enumerate(grammar[1])
        ]
    return by_name(hands, [("asked", say(leader, least_but(leader), *choices))] + behind + inside)


def but_ends(grammar, instead):
    """The places of a grammar but its ends, by name, with something instead of ends."""
    def name(to):
        return instead if grammar[1][to] == END else ("one", to)
    return [
        (("one", number), named_place(place, name)) for number, place in enumerate(grammar[1]) if place != END
    ]


def followed_by_name(one, other):
    if one[1][0] == END:
        return other
    behind = [
        (("other", number), named_place(place, lambda to: ("other", to))) for number, place in enumerate(other[1])
    ]
    return by_name(one[0], but_ends(one, ("other", 0)) + behind)


def again_by_name(grammar, leader, more, stop):
    at_once = grammar[1][0] == END
    kept = [] if at_once else but_ends(grammar, "asked")
    on, first = relays(grammar[0], leader, more, "asked" if at_once else ("one", 0))
    off, other_first = relays(grammar[0], leader, stop, "end")
    asking = say(leader, least_but(leader), *sorted([(more, first), (stop, other_first)]))
    return by_name(grammar[0], kept + [("asked", asking)] + on + off + [("end", END)])


def rooted_by_name(grammar, place):
    order = [place]
    for number in order:
        if grammar[1][number] != END:
            for choice in grammar[1][number][3]:
                if choice[2] not in order:
                    order.append(choice[2])
    return by_name(grammar[0], [(number, grammar[1][number]) for number in order])


def can_end(grammar):
    """Whether from each place to which one comes one can come to an end."""
    return all(
        any(grammar[1][end] == END for end in reached(grammar, {number})) for number in reached(grammar, {0})
    )


def of_hands(grammars, hands):
    return [grammar for grammar in grammars if grammar[0] == hands]


def handed(dice, grammars, most):
    """Some of the grammars, of as many hands."""
    chosen = of_hands(grammars, dice.one_of((2, 3, 4)))
    return tuple(dice.one_of(chosen) for number in range(1 + dice.below(most)))


def ways_to_ends(dice, grammar, tries=6):
    ways = [made_way(dice, grammar, 15) for number in range(tries)]
    return [way for way in ways if grammar[1][place_of(grammar, way)] == END]


class JoiningCase(unittest.TestCase):
    def is_well_formed(self, grammar):
        """All of 2.1 but for the numbers of places and of choices."""
        self.assertTrue(is_plain(grammar))
        self.assertIs(type(grammar), tuple)
        self.assertIs(type(grammar[1]), tuple)
        for place in grammar[1]:
            self.assertTrue(nexts(place) <= set(range(len(grammar[1]))))
            # Its choices, five at a time, each leading to an end, are such of a grammar within the bounds.
            for first in range(0, len(place[3]) if place != END else 0, 5):
                choices = tuple((word, kind, 1) for word, kind, number in place[3][first:first + 5])
                self.assertTrue(is_grammar((grammar[0], (place[:3] + (choices,), END))), place)
            if place != END:
                self.assertEqual(list(place[3]), sorted(place[3], key=lambda choice: choice[0]))

    def is_told(self, told, wanted):
        self.assertEqual(told, wanted)
        self.is_well_formed(told)


class Asked(JoiningCase):
    def test_one_grammar_of_two_hands(self):
        self.is_told(asked((chain(2),), 0, ("go",)), (2, (
            say(0, 1, ("go", 1)), say(0, 1, ("on", 2)), END,
        )))
        self.is_told(asked((chain(2),), 1, ("go",)), (2, (
            say(1, 0, ("go", 1)), say(0, 1, ("on", 2)), END,
        )))

    def test_two_grammars_of_two_hands(self):
        # Nothing is said on.
        self.is_told(asked((chain(3), TALK), 1, ("a", "b")), (2, (
            say(1, 0, ("a", 1), ("b", 4)),
            say(0, 1, ("on", 2)), say(0, 1, ("on", 3)), END,
            say(0, 1, ("ask", SIDE, 6), ("out", 5)), END, say(1, 0, ("no", 4), ("so", 7), ("yes", DIGIT, 8)), END,
            say(0, 1, ("end", 7)),
        )))

    def test_three_hands_and_each_as_leader(self):
        grammars = (chain(2, hands=3), (3, (END,)))
        tails = (say(0, 1, ("on", 4)), END, END)
        self.is_told(asked(grammars, 0, ("a", "b")), (3, (
            say(0, 1, ("a", 1), ("b", 2)), say(0, 2, ("a", 3)), say(0, 2, ("b", 5)),
        ) + tails))
        self.is_told(asked(grammars, 1, ("a", "b")), (3, (
            say(1, 0, ("a", 1), ("b", 2)), say(1, 2, ("a", 3)), say(1, 2, ("b", 5)),
        ) + tails))
        self.is_told(asked(grammars, 2, ("a", "b")), (3, (
            say(2, 0, ("a", 1), ("b", 2)), say(2, 1, ("a", 3)), say(2, 1, ("b", 5)),
        ) + tails))

    def test_four_hands_and_each_as_leader(self):
        grammars = ((4, (END,)), chain(2, hands=4))
        tails = (END, say(0, 1, ("on", 7)), END)
        for leader, first, second, third in ((0, 1, 2, 3), (1, 0, 2, 3), (2, 0, 1, 3), (3, 0, 1, 2)):
            self.is_told(asked(grammars, leader, ("no", "yes")), (4, (
                say(leader, first, ("no", 1), ("yes", 3)),
                say(leader, second, ("no", 2)), say(leader, third, ("no", 5)),
                say(leader, second, ("yes", 4)), say(leader, third, ("yes", 6)),
            ) + tails))

    def test_grammars_that_end_at_once(self):
        for hands in (2, 3, 4):
            ends = ((hands, (END,)),) * 5
            told = asked(ends, 1, WORDS[:5])
            self.is_told(told, asked_by_name(ends, 1, WORDS[:5]))
            self.assertEqual(told[1][-5:], (END,) * 5)
            self.assertIs(is_fair(told), True)

    def test_five_grammars(self):
        grammars = (TALK, chain(1), chain(4), (2, (say(1, 0, ("x", 0)),)), chain(2))
        told = asked(grammars, 0, ("aa", "ab", "b", "c", "ca"))
        self.is_told(told, asked_by_name(grammars, 0, ("aa", "ab", "b", "c", "ca")))
        self.assertEqual(told[1][0], say(0, 1, ("aa", 1), ("ab", 6), ("b", 7), ("c", 11), ("ca", 12)))
        self.assertIs(is_grammar(told), True)

    def test_the_same_grammar_twice(self):
        told = asked((MARKET, MARKET), 2, ("a", "b"))
        self.is_told(told, asked_by_name((MARKET, MARKET), 2, ("a", "b")))
        self.assertEqual(len(told[1]), 15)

    def test_more_than_five(self):
        grammars = tuple(chain(number + 1, hands=3) for number in range(8))
        told = asked(grammars, 1, WORDS)
        self.is_told(told, asked_by_name(grammars, 1, WORDS))
        self.assertEqual(len(told[1][0][3]), 8)
        self.assertIs(is_grammar(told), False)
        self.assertIs(is_fair(told), True)

    def test_places_to_which_one_does_not_come_stay(self):
        grammar = (2, (END, say(0, 1, ("a", 0), ("b", 1)), END))
        self.is_told(asked((grammar, grammar), 0, ("x", "y")), (2, (
            say(0, 1, ("x", 1), ("y", 4)),
            END, say(0, 1, ("a", 1), ("b", 2)), END, END, say(0, 1, ("a", 4), ("b", 5)), END,
        )))

    def test_many(self):
        dice = Dice(151)
        for round_number in range(300):
            grammars = handed(dice, made_grammars(), 5)
            for leader in range(grammars[0][0]):
                self.is_told(
                    asked(grammars, leader, WORDS[:len(grammars)]),
                    asked_by_name(grammars, leader, WORDS[:len(grammars)]),
                )

    def test_ways(self):
        dice = Dice(157)
        for round_number in range(100):
            grammars = handed(dice, made_grammars(), 5)
            hands = grammars[0][0]
            told = asked(grammars, dice.below(hands), WORDS[:len(grammars)])
            ahead = 1 + (hands - 2) * len(grammars)
            for word, grammar in zip(WORDS, grammars):
                way = made_way(dice, grammar, 8)
                self.assertEqual(
                    place_of(told, ((word, None),) * (hands - 1) + way), ahead + place_of(grammar, way)
                )
                ahead += len(grammar[1])
            for odd in ("z", "", "i"):
                self.assertIsNone(place_of(told, ((odd, None),)))
            self.assertIsNone(place_of(told, (("a", 0),)))

    def test_fair_just_if_all_are(self):
        dice = Dice(163)
        fair = 0
        for round_number in range(250):
            grammars = handed(dice, made_grammars(), 3 if round_number % 2 else 1)
            told = asked(grammars, dice.below(grammars[0][0]), WORDS[:len(grammars)])
            wanted = all(is_fair_by_sets(grammar) for grammar in grammars)
            self.assertIs(is_fair(told), wanted, told)
            self.assertIs(is_fair_by_sets(told), wanted, told)
            fair += wanted
        self.assertGreater(min(fair, 250 - fair), 50)

    def test_not_fair_wherever_the_one_stands_that_is_not(self):
        for spot in range(4):
            grammars = [MARKET, (3, (END,)), chain(3, hands=3), MARKET]
            for leader in range(3):
                self.assertIs(is_fair(asked(tuple(grammars), leader, WORDS[:4])), True)
            grammars[spot] = TRADE
            for leader in range(3):
                self.assertIs(is_fair(asked(tuple(grammars), leader, WORDS[:4])), False)


class Followed(JoiningCase):
    def test_an_end_at_the_back(self):
        self.is_told(followed(chain(3), chain(2)), (2, (
            say(0, 1, ("on", 1)), say(0, 1, ("on", 2)), say(0, 1, ("on", 3)), END,
        )))

    def test_an_end_in_the_middle(self):
        one = (2, (say(0, 1, ("a", 1), ("b", 2)), END, say(1, 0, ("c", 0), ("d", 1))))
        self.is_told(followed(one, chain(2)), (2, (
            say(0, 1, ("a", 2), ("b", 1)), say(1, 0, ("c", 0), ("d", 2)), say(0, 1, ("on", 3)), END,
        )))

    def test_several_ends(self):
        self.is_told(followed(TALK, TALK), (2, (
            say(0, 1, ("ask", SIDE, 1), ("out", 3)), say(1, 0, ("no", 0), ("so", 3), ("yes", DIGIT, 2)),
            say(0, 1, ("end", 3)),
            say(0, 1, ("ask", SIDE, 5), ("out", 4)), END, say(1, 0, ("no", 3), ("so", 6), ("yes", DIGIT, 7)), END,
            say(0, 1, ("end", 6)),
        )))

    def test_none(self):
        one = (2, (say(0, 1, ("a", 1)), say(1, 0, ("b", 0))))
        self.is_told(followed(one, chain(2)), (2, one[1] + (say(0, 1, ("on", 3)), END)))

    def test_ends_alone_and_behind_one_another(self):
        one = (3, (say(2, 1, ("a", 1), ("b", 2), ("c", 3)), END, END, END))
        self.is_told(followed(one, (3, (END,))), (3, (say(2, 1, ("a", 1), ("b", 1), ("c", 1)), END)))
        self.is_told(followed(one, one), (3, (
            say(2, 1, ("a", 1), ("b", 1), ("c", 1)), say(2, 1, ("a", 2), ("b", 3), ("c", 4)), END, END, END,
        )))

    def test_where_the_first_one_ends_at_once(self):
        for one in ((2, (END,)), (2, (END, END)), (2, (END, say(0, 1, ("a", 0), ("b", 2)), END))):
            for other in (TALK, chain(3), (2, (END,)), one):
                self.is_told(followed(one, other), other)

    def test_where_the_other_one_ends_at_once(self):
        self.is_told(followed(TALK, (2, (END, say(0, 1, ("a", 0)), END))), (2, (
            say(0, 1, ("ask", SIDE, 1), ("out", 3)), say(1, 0, ("no", 0), ("so", 3), ("yes", DIGIT, 2)),
            say(0, 1, ("end", 3)), END, say(0, 1, ("a", 3)), END,
        )))

    def test_other_places_keep_their_ends(self):
        told = followed(chain(2, hands=3), MARKET)
        self.assertEqual(told[1][-1], END)
        self.assertEqual([number for number, place in enumerate(told[1]) if place == END], [6])

    def test_many(self):
        dice = Dice(167)
        for round_number in range(600):
            hands = dice.one_of((2, 3, 4))
            one, other = [dice.one_of(of_hands(made_grammars(), hands)) for number in range(2)]
            self.is_told(followed(one, other), followed_by_name(one, other))

    def test_ways(self):
        dice = Dice(173)
        looked_at = 0
        for round_number in range(200):
            one, other = [dice.one_of(of_hands(made_grammars(), 3)) for number in range(2)]
            told = followed(one, other)
            ahead = 0 if one[1][0] == END else len(one[1]) - one[1].count(END)
            for way in ways_to_ends(dice, one):
                behind = made_way(dice, other, 6)
                self.assertEqual(place_of(told, way + behind), ahead + place_of(other, behind))
                looked_at += 1
        self.assertGreater(looked_at, 100)

    def test_fair_where_both_are_and_the_first_one_can_end(self):
        dice = Dice(179)
        for one in fair_grammars():
            if can_end(one):
                other = dice.one_of(of_hands(fair_grammars(), one[0]))
                self.assertIs(is_fair(followed(one, other)), True, (one, other))

    def test_not_fair_where_a_hand_waits_in_vain(self):
        # Hands 0 and 1 may go on for ever, and then hand 2 hears nothing more.
        one = (3, (say(0, 1, ("a", 1), ("b", 2)), say(0, 1, ("c", 1)), END))
        other = (3, (say(0, 2, ("d", 1)), END))
        self.assertIs(is_fair(one) and is_fair(other), True)
        self.assertEqual(reason(followed(one, other), 2)[0], "never")


class Again(JoiningCase):
    def test_two_hands(self):
        # Nothing is said on; stop stands behind more in the order of texts, and ahead of it.
        self.is_told(again(chain(2), 0, "mor", "sto"), (2, (
            say(0, 1, ("on", 1)), say(0, 1, ("mor", 0), ("sto", 2)), END,
        )))
        self.is_told(again(chain(2), 1, "on", "end"), (2, (
            say(0, 1, ("on", 1)), say(1, 0, ("end", 2), ("on", 0)), END,
        )))

    def test_three_hands_and_each_as_leader(self):
        for leader, first, second in ((0, 1, 2), (1, 0, 2), (2, 0, 1)):
            self.is_told(again(chain(3, hands=3), leader, "a", "b"), (3, (
                say(0, 1, ("on", 1)), say(0, 1, ("on", 2)),
                say(leader, first, ("a", 3), ("b", 4)),
                say(leader, second, ("a", 0)), say(leader, second, ("b", 5)), END,
            )))
            # Where more is said on comes first, whatever the order of the words.
            self.is_told(again(chain(3, hands=3), leader, "b", "a"), (3, (
                say(0, 1, ("on", 1)), say(0, 1, ("on", 2)),
                say(leader, first, ("a", 4), ("b", 3)),
                say(leader, second, ("b", 0)), say(leader, second, ("a", 5)), END,
            )))

    def test_four_hands_and_each_as_leader(self):
        for leader, first, second, third in ((0, 1, 2, 3), (1, 0, 2, 3), (2, 0, 1, 3), (3, 0, 1, 2)):
            self.is_told(again(chain(2, hands=4), leader, "a", "b"), (4, (
                say(0, 1, ("on", 1)), say(leader, first, ("a", 2), ("b", 4)),
                say(leader, second, ("a", 3)), say(leader, third, ("a", 0)),
                say(leader, second, ("b", 5)), say(leader, third, ("b", 6)), END,
            )))

    def test_several_ends_in_the_middle_and_at_the_back(self):
        self.is_told(again(TALK, 1, "b", "a"), (2, (
            say(0, 1, ("ask", SIDE, 1), ("out", 3)), say(1, 0, ("no", 0), ("so", 3), ("yes", DIGIT, 2)),
            say(0, 1, ("end", 3)), say(1, 0, ("a", 4), ("b", 0)), END,
        )))

    def test_no_end(self):
        grammar = (3, (say(0, 1, ("x", 1)), say(1, 0, ("y", 0))))
        self.is_told(again(grammar, 0, "a", "b"), (3, grammar[1] + (
            say(0, 1, ("a", 3), ("b", 4)), say(0, 2, ("a", 0)), say(0, 2, ("b", 5)), END,
        )))

    def test_a_grammar_that_ends_at_once(self):
        for grammar in ((2, (END,)), (2, (END, say(0, 1, ("a", 0), ("b", 2)), END))):
            self.is_told(again(grammar, 1, "on", "off"), (2, (say(1, 0, ("off", 1), ("on", 0)), END)))
        self.is_told(again((3, (END, say(0, 1, ("a", 0)))), 1, "a", "b"), (3, (
            say(1, 0, ("a", 1), ("b", 2)), say(1, 2, ("a", 0)), say(1, 2, ("b", 3)), END,
        )))

    def test_words_of_the_grammar(self):
        self.is_told(again(MARKET, 2, "ask", "go"), again_by_name(MARKET, 2, "ask", "go"))
        self.assertIs(is_fair(again(MARKET, 2, "ask", "go")), True)

    def test_many(self):
        dice = Dice(181)
        for grammar in made_grammars()[::2]:
            more, stop = dice.one_of((("a", "b"), ("b", "a"), ("zz", "z"), ("mor", "sto")))
            for leader in range(grammar[0]):
                self.is_told(again(grammar, leader, more, stop), again_by_name(grammar, leader, more, stop))

    def test_ways(self):
        dice = Dice(191)
        looked_at = 0
        for grammar in made_grammars()[::3]:
            told = again(grammar, dice.below(grammar[0]), "mor", "end")
            more = (("mor", None),) * (grammar[0] - 1)
            stop = (("end", None),) * (grammar[0] - 1)
            ways = ways_to_ends(dice, grammar)
            for way, other in zip(ways, ways[1:]):
                self.assertEqual(place_of(told, way + more), 0)
                self.assertEqual(place_of(told, way + more + other + more), 0)
                self.assertEqual(place_of(told, way + more + other + stop), len(told[1]) - 1)
                self.assertEqual(told[1][place_of(told, way + stop)], END)
                looked_at += 1
        self.assertGreater(looked_at, 100)

    def test_fair_where_the_grammar_is_and_can_end(self):
        looked_at = 0
        for grammar in fair_grammars() + ((2, (END,)), (3, (END,)), (4, (END,)), chain(4, hands=4)):
            if can_end(grammar):
                for leader in range(grammar[0]):
                    told = again(grammar, leader, "mor", "end")
                    self.assertIs(is_fair(told), True, told)
                    self.assertIs(is_fair_by_sets(told), True, told)
                    looked_at += 1
        self.assertGreater(looked_at, 100)

    def test_not_fair_where_it_can_not_end(self):
        # Hands 0 and 1 may go on for ever, and then hand 2 is never asked.
        grammar = (3, (say(0, 1, ("a", 1), ("b", 2)), say(0, 1, ("c", 1)), END))
        self.assertIs(is_fair(grammar), True)
        self.assertIs(is_fair(again(grammar, 0, "mor", "end")), False)

    def test_not_fair_where_the_grammar_is_not(self):
        for leader in range(3):
            self.assertIs(is_fair(again((3, (
                say(0, 1, ("a", 1), ("b", 2)), say(2, 0, ("c", 3)), say(0, 2, ("d", 3)), END,
            )), leader, "mor", "end")), False)


class Rooted(JoiningCase):
    def test_place_0(self):
        for grammar in (chain(3), (2, (END,)), MARKET, TRADE):
            told = rooted(grammar, 0)
            self.is_told(told, rooted_by_name(grammar, 0))
            self.assertEqual(len(told[1]), len(grammar[1]))
        self.assertEqual(rooted(chain(3), 0), chain(3))
        # Its places stand in the order of first coming, which was not so before.
        self.is_told(rooted(TALK, 0), (2, (
            say(0, 1, ("ask", SIDE, 1), ("out", 2)), say(1, 0, ("no", 0), ("so", 3), ("yes", DIGIT, 4)), END, END,
            say(0, 1, ("end", 3)),
        )))

    def test_an_end(self):
        self.is_told(rooted(TALK, 1), (2, (END,)))
        self.is_told(rooted(MARKET, 5), (3, (END,)))
        self.is_told(rooted((4, (END,)), 0), (4, (END,)))

    def test_a_place_in_the_middle(self):
        # Place 3 of MARKET comes behind its place 4, which is the nearer one by its word.
        self.is_told(rooted(MARKET, 1), (3, (
            say(1, 0, ("is", DIGIT, 1), ("no", 2)), say(0, 1, ("bid", DIGIT, 0), ("bye", 2), ("yes", 3)),
            say(0, 2, ("off", 4)), say(0, 2, ("go", ("row", SIDE, 2), 4)), END,
        )))
        self.is_told(rooted(MARKET, 3), (3, (say(0, 2, ("go", ("row", SIDE, 2), 1)), END)))

    def test_places_that_come_back(self):
        self.is_told(rooted((2, (say(0, 1, ("a", 0)),)), 0), (2, (say(0, 1, ("a", 0)),)))
        ring = (2, tuple(say(0, 1, ("a", (number + 1) % 5)) for number in range(5)))
        for place in range(5):
            self.is_told(rooted(ring, place), ring)
        self.is_told(rooted(TALK, 2), (2, (
            say(1, 0, ("no", 1), ("so", 2), ("yes", DIGIT, 3)), say(0, 1, ("ask", SIDE, 0), ("out", 4)), END,
            say(0, 1, ("end", 2)), END,
        )))

    def test_place_by_place_and_choice_by_choice(self):
        # From 3 one comes to 5 and 1, from 5 to 4, from 1 to 2 and 0; what leads deep first would tell 4 ahead of 1.
        grammar = (2, (
            END, say(0, 1, ("a", 2), ("b", 0)), END, say(0, 1, ("a", 5), ("b", 1), ("c", 5)), END,
            say(1, 0, ("a", 4)), END,
        ))
        self.is_told(rooted(grammar, 3), (2, (
            say(0, 1, ("a", 1), ("b", 2), ("c", 1)), say(1, 0, ("a", 3)), say(0, 1, ("a", 4), ("b", 5)), END, END, END,
        )))

    def test_places_to_which_one_does_not_come_are_left_out(self):
        grammar = (2, (say(0, 1, ("a", 2)), say(0, 1, ("b", 0)), END, END, say(1, 0, ("c", 4))))
        self.is_told(rooted(grammar, 0), chain(2)[:1] + ((say(0, 1, ("a", 1)), END),))
        self.is_told(rooted(grammar, 1), (2, (say(0, 1, ("b", 1)), say(0, 1, ("a", 2)), END)))
        self.is_told(rooted(grammar, 4), (2, (say(1, 0, ("c", 0)),)))

    def test_many(self):
        for grammar in made_grammars():
            for place in range(len(grammar[1])):
                told = rooted(grammar, place)
                self.assertEqual(told, rooted_by_name(grammar, place))
                self.assertEqual(len(told[1]), len(reached(grammar, {place})))
                self.assertEqual(rooted(told, 0), told)

    def test_ways(self):
        dice = Dice(193)
        for grammar in made_grammars()[::3]:
            way = made_way(dice, grammar, 5)
            told = rooted(grammar, place_of(grammar, way))
            self.is_well_formed(told)
            behind = made_way(dice, told, 6)
            self.assertEqual(
                rooted(told, place_of(told, behind)), rooted(grammar, place_of(grammar, way + behind))
            )

    def test_fair_where_the_grammar_is(self):
        # From place 0 on nothing changes but the numbers.
        for grammar in made_grammars()[::2]:
            told = rooted(grammar, 0)
            self.assertIs(is_fair(told), is_fair(grammar))
            for hand in range(grammar[0]):
                if reason(grammar, hand) is None:
                    self.assertEqual(part_of(told, hand), part_of(grammar, hand))


class GreaterGrammars(JoiningCase):
    """More than 60 places, and more than 5 choices: all functions but is_grammar take them."""

    def test_all_functions(self):
        long = (3, tuple(say(0, 1, ("on", number + 1)) for number in range(70)) + (say(1, 2, ("fin", 71)), END))
        wide = (3, (say(0, 1, *[(word, 1) for word in WORDS]), say(1, 2, *[(word, 2) for word in WORDS]), END))
        both = asked((long, wide, followed(wide, long)), 2, ("l", "w", "x"))
        for grammar in (long, wide, both, again(both, 1, "mor", "end"), followed(long, both), rooted(both, 0)):
            self.is_well_formed(grammar)
            self.assertIs(is_grammar(grammar), False)
            self.all_is_told(grammar)

    def all_is_told(self, grammar):
        dice = Dice(197)
        self.assertIs(is_fair(grammar), True)
        parts = [part_of(grammar, hand) for hand in range(3)]
        self.assertEqual(parts, [part_by_sets(grammar, hand) for hand in range(3)])
        hall = Hall(grammar)
        for move in range(40):
            if not hall.is_over():
                do(hall, made_move(dice, hall, parts))
        self.assertGreater(len(hall.done(0)) + len(hall.done(1)), 2)
        logs = tuple(hall.done(hand) for hand in range(3))
        for way in (way_of(hall), judge(grammar, logs)[1]):
            self.assertIsNotNone(place_of(grammar, way))
            for hand, log in enumerate(logs):
                self.assertEqual(done_on(grammar, hand, way)[:len(log)], log)
        last = len(grammar[1]) - 1
        other = renamed(grammar, (1, 2, 0), (0,) + tuple(range(last, 0, -1)))
        self.assertEqual(renamed(other, (2, 0, 1), (0,) + tuple(range(last, 0, -1))), grammar)
        self.assertIs(is_fair(other), True)
        self.assertGreaterEqual(count(grammar, 2), 1)
        self.assertEqual(count(other, 40), count(grammar, 40))
        self.assertEqual(soonest(other, 0), soonest(grammar, 0))

    def test_sixty_places_and_five_choices_are_within_the_bounds(self):
        grammar = followed(chain(31), chain(30))
        self.assertEqual(len(grammar[1]), 60)
        self.assertIs(is_grammar(grammar), True)
        self.assertIs(is_grammar(followed(chain(2), grammar)), False)
        ends = ((2, (END,)),) * 6
        self.assertIs(is_grammar(asked(ends[:5], 0, WORDS[:5])), True)
        self.assertIs(is_grammar(asked(ends, 0, WORDS[:6])), False)

    def test_put_together_again_and_again(self):
        dice = Dice(199)
        for round_number in range(12):
            grammar = dice.one_of([grammar for grammar in fair_grammars() if can_end(grammar)])
            hands = grammar[0]
            others = [other for other in of_hands(fair_grammars(), hands) if can_end(other)]
            for step in range(3):
                put = dice.below(3)
                if put == 0:
                    grammar = asked((grammar, dice.one_of(others), grammar), dice.below(hands), ("a", "k", "z"))
                elif put == 1:
                    grammar = followed(grammar, dice.one_of(others))
                else:
                    grammar = again(grammar, dice.below(hands), "a", "z")
            self.is_well_formed(grammar)
            self.assertIs(is_fair(grammar), True)
            self.never_sticks(dice, grammar)

    def never_sticks(self, dice, grammar):
        hall = Hall(grammar)
        parts = [part_of(grammar, hand) for hand in range(grammar[0])]
        for move in range(60):
            if hall.is_over():
                break
            self.assertTrue(hall.can(), grammar)
            do(hall, made_move(dice, hall, parts))
        way = way_of(hall)
        for hand in range(grammar[0]):
            done = hall.done(hand)
            self.assertEqual(done_on(grammar, hand, way)[:len(done)], done)

    def test_longer_words_more_hands_and_greater_kinds(self):
        kind = ("row", ("number", -3000000, 3000000), 30)
        grammar = (6, (say(5, 4, ("longer", kind, 1), ("other", 1)), END))
        self.assertEqual(asked((grammar,), 3, ("longest",))[1], (
            say(3, 0, ("longest", 1)), say(3, 1, ("longest", 2)), say(3, 2, ("longest", 3)), say(3, 4, ("longest", 4)),
            say(3, 5, ("longest", 5)), say(5, 4, ("longer", kind, 6), ("other", 6)), END,
        ))
        self.assertEqual(again(grammar, 0, "onward", "nevermore"), again_by_name(grammar, 0, "onward", "nevermore"))
        self.assertEqual(followed(grammar, grammar), followed_by_name(grammar, grammar))


class AllThatIsTold(JoiningCase):
    def test_the_same_is_told_again_and_nothing_is_changed(self):
        dice = Dice(211)
        for round_number in range(60):
            grammars = handed(dice, made_grammars(), 5)
            one, other = grammars[0], grammars[-1]
            calls = (
                (asked, (grammars, 1, WORDS[:len(grammars)])), (followed, (one, other)), (again, (one, 0, "b", "a")),
                (rooted, (one, len(one[1]) - 1)),
            )
            for function, given in calls:
                kept = copy.deepcopy(given)
                told = function(*given)
                self.assertTrue(is_plain(told))
                self.assertEqual(function(*given), told)
                self.assertEqual(function(*copy.deepcopy(given)), told)
                self.assertEqual(given, kept)

    def test_other_numbers_of_hands_change_nothing_but_them(self):
        # The leader says it to others in their order, so hands are exchanged that keep it.
        dice = Dice(223)
        for grammar in of_hands(made_grammars(), 3)[::5]:
            numbers = tuple(range(len(grammar[1])))
            hands = made_numbers(dice, 3)
            for place in range(len(grammar[1])):
                self.assertEqual(
                    rooted(renamed(grammar, hands, numbers), place),
                    renamed(rooted(grammar, place), hands, tuple(range(len(rooted(grammar, place)[1])))),
                )
            other = dice.one_of(of_hands(made_grammars(), 3))
            told = followed(grammar, other)
            self.assertEqual(
                followed(renamed(grammar, hands, numbers), renamed(other, hands, tuple(range(len(other[1]))))),
                renamed(told, hands, tuple(range(len(told[1])))),
            )

    def test_halls_of_what_is_put_together(self):
        hall = Hall(asked((MARKET, again(MARKET, 1, "mor", "end")), 1, ("one", "two")))
        self.assertEqual(hall.can(), (("say", 1, "one"), ("say", 1, "two")))
        hall.say(1, "two", None)
        hall.say(1, "two", None)
        self.assertEqual(hall.under_way(1, 0), (("two", None),))
        self.assertEqual(hall.under_way(1, 2), (("two", None),))
        hall.hear(0)
        for round_number in range(2):
            hall.say(0, "ask", "lef")
            hall.hear(1)
            hall.say(1, "no", None)
            hall.say(1, ("mor", "end")[round_number], None)
            hall.say(1, ("mor", "end")[round_number], None)
            hall.hear(0)
            hall.say(0, "off", None)
            hall.hear(0)
        self.assertEqual([hall.hear(2) for letter in range(5)], [
            (1, "two", None), (0, "off", None), (1, "mor", None), (0, "off", None), (1, "end", None),
        ])
        self.assertIs(hall.is_over(), True)
        self.assertFalse(any(all_told(hall, 3)[2]))

    def test_the_kind_of_words_that_are_said_on_is_none(self):
        for told in (asked((MARKET, MARKET), 0, ("p", "q")), again(MARKET, 0, "p", "q")):
            kinds = {choice[:2] for place in told[1] if place != END for choice in place[3] if choice[0] in "pq"}
            self.assertEqual(kinds, {("p", NONE), ("q", NONE)})


if __name__ == "__main__":
    unittest.main()
