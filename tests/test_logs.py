"""Point 5.1, and 0.2 (d) and 0.3 of logs."""

import copy
import unittest

from helper import (
    DIGIT, END, MARKET, NONE, ODD_THINGS, SIDE, TRADE, Dice, chain, do, fair_grammars, is_plain, is_turn,
    made_grammars, made_move, made_numbers, made_way, part_by_sets, reached, say, shown, values_of,
)
from parleyturn.errors import NoPart, TalkError
from parleyturn.grammars import done_on, place_of, renamed
from parleyturn.halls import Hall
from parleyturn.logs import judge
from parleyturn.parts import is_fair, part_of

# Hand 0 counts for hand 1 until it is told to stop; then hand 1 tells how many it heard.
STREAM = (2, (say(0, 1, ("n", DIGIT, 0), ("z", 1)), say(1, 0, ("sum", ("number", 0, 99), 2)), END))

# Hands 0 and 1 talk, hands 2 and 3 talk, and neither two hear of the other two.
APART = (4, (
    say(0, 1, ("a", DIGIT, 1)), say(2, 3, ("a", SIDE, 2), ("b", 2)), say(1, 0, ("c", 3)), say(3, 2, ("c", 4)), END,
))

# Hand 3 hears from each of the others, in their order, round by round, for ever.
ROUNDS = (4, (
    say(0, 3, ("go", DIGIT, 1), ("no", 1)), say(1, 3, ("go", DIGIT, 2)), say(2, 3, ("go", DIGIT, 0)),
))


def asks(value="lef"):
    return ("says", 1, "ask", value)


def heard_asking(value="lef"):
    return ("hears", 0, "ask", value)


# What all hands do in MARKET where the first price is taken.
BOUGHT = (
    (asks(), ("hears", 1, "is", 7), ("says", 1, "yes", None), ("says", 2, "go", ("rig",))),
    (heard_asking(), ("says", 0, "is", 7), ("hears", 0, "yes", None)),
    (("hears", 0, "go", ("rig",)),),
)


def with_log(logs, hand, log):
    return logs[:hand] + (tuple(log),) + logs[hand + 1:]


def alone(hands, hand, log):
    return with_log(((),) * hands, hand, log)


def letters(log, role, partner):
    return [doing[2:] for doing in log if doing[:2] == (role, partner)]


def first_not_on_a_way(grammar, hand, log):
    """The number of the first doing behind which there is no way on which the hand does so; None if there is one."""
    def own(place):
        return is_turn(place, hand)
    group = reached(grammar, {0}, own)
    for k, doing in enumerate(log):
        led = set()
        for place in [grammar[1][number] for number in group if own(grammar[1][number])]:
            role = ("says", place[2]) if place[1] == hand else ("hears", place[1])
            for word, kind, number in place[3]:
                values = [shown(value) for value in values_of(kind)]
                if role + (word,) == doing[:3] and shown(doing[3]) in values:
                    led.add(number)
        if not led:
            return k
        group = reached(grammar, led, own)
    return None


def first_not_said(logs):
    """The least (one, other, k) of a word that was heard and not said as the word number k; None if there is none."""
    found = []
    for one, log in enumerate(logs):
        for other, other_log in enumerate(logs):
            said = letters(log, "says", other)
            heard = letters(other_log, "hears", one)
            found += [(one, other, k) for k in range(len(heard)) if said[k:k + 1] != heard[k:k + 1]]
    return min(found, default=None)


def told_of(grammar, logs):
    """What judge tells, but for the way itself."""
    broken = [(hand, first_not_on_a_way(grammar, hand, log)) for hand, log in enumerate(logs)]
    broken = [pair for pair in broken if pair[1] is not None]
    if broken:
        return ("broke",) + min(broken)
    unheard = first_not_said(logs)
    return ("way",) if unheard is None else ("unheard",) + unheard


def run_logs(dice, grammar, moves, late=None):
    """What hands wrote down in a hall behind some moves."""
    hall = Hall(grammar)
    parts = [part_of(grammar, hand) for hand in range(grammar[0])]
    for move in range(moves):
        if not hall.is_over():
            do(hall, made_move(dice, hall, parts, late))
    return tuple(hall.done(hand) for hand in range(grammar[0]))


def cut(logs, lengths):
    """The logs, cut off at lengths, and further, so that nothing is heard that was not said."""
    logs = tuple(log[:length] for log, length in zip(logs, lengths))
    while first_not_said(logs) is not None:
        one, other, k = first_not_said(logs)
        hears = [spot for spot, doing in enumerate(logs[other]) if doing[:2] == ("hears", one)]
        logs = with_log(logs, other, logs[other][:hears[k]])
    return logs


def walked(dice, part, length, mail):
    """A log of a hand that goes by its part; what it hears is as mail says, by sayer, or anything if mail has none."""
    log = []
    state = 0
    while len(log) < length and part[state] != END:
        role, partner, choices = part[state]
        word, kind, state = dice.one_of(choices)
        value = dice.one_of(values_of(kind))
        if role == "hears" and mail.get(partner):
            word, value = mail[partner].pop(0)
            fitting = [choice for choice in choices if choice[0] == word and value in values_of(choice[1])]
            if not fitting:
                break
            state = fitting[0][2]
        elif role == "hears" and partner in mail:
            break
        log.append((role, partner, word, value))
    return tuple(log)


class JudgeCase(unittest.TestCase):
    def is_way(self, grammar, logs):
        told = judge(grammar, logs)
        self.assertEqual((told[0], len(told)), ("way", 2), (grammar, logs))
        self.assertIs(type(told), tuple)
        self.assertTrue(is_plain(told))
        self.assertIsNotNone(place_of(grammar, told[1]), (grammar, logs))
        for hand, log in enumerate(logs):
            self.assertEqual(done_on(grammar, hand, told[1])[:len(log)], log, (grammar, logs))
        return told[1]

    def is_as_told(self, grammar, logs):
        told = told_of(grammar, logs)
        if told == ("way",):
            self.is_way(grammar, logs)
        else:
            self.assertEqual(judge(grammar, logs), told, (grammar, logs))
        return told[0]

    def broke(self, grammar, logs, hand, k):
        self.assertEqual(judge(grammar, logs), ("broke", hand, k))
        self.assertEqual(told_of(grammar, logs), ("broke", hand, k))

    def unheard(self, grammar, logs, one, other, k):
        self.assertEqual(judge(grammar, logs), ("unheard", one, other, k))
        self.assertEqual(told_of(grammar, logs), ("unheard", one, other, k))


class Ways(JudgeCase):
    def test_empty_logs(self):
        for grammar in (STREAM, MARKET, APART, ROUNDS, chain(3), (2, (END,)), (4, (END,)), (2, (say(0, 1, ("a", 0)),))):
            self.is_way(grammar, ((),) * grammar[0])

    def test_whole_talks(self):
        self.assertEqual(self.is_way(MARKET, BOUGHT), (("ask", "lef"), ("is", 7), ("yes", None), ("go", ("rig",))))
        way = (("n", 4), ("n", 0), ("z", None), ("sum", 2))
        logs = tuple(done_on(STREAM, hand, way) for hand in range(2))
        self.assertEqual(self.is_way(STREAM, logs), way)
        way = (("a", 3), ("a", "rig"), ("c", None), ("c", None))
        logs = tuple(done_on(APART, hand, way) for hand in range(4))
        self.assertEqual(self.is_way(APART, logs), way)

    def test_words_that_are_not_heard_yet(self):
        self.is_way(STREAM, ((("says", 1, "n", 4), ("says", 1, "n", 5), ("says", 1, "z", None)), ()))
        self.is_way(STREAM, ((("says", 1, "n", 4), ("says", 1, "n", 5)), (("hears", 0, "n", 4),)))
        self.is_way(MARKET, with_log(BOUGHT, 2, ()))
        self.is_way(MARKET, with_log(with_log(BOUGHT, 2, ()), 1, BOUGHT[1][:2]))

    def test_hands_that_said_something_ahead_of_others(self):
        # Hand 2 is two rounds ahead, hand 1 one, and hand 0 has said nothing at all.
        self.is_way(ROUNDS, ((), (("says", 3, "go", 1),), (("says", 3, "go", 2), ("says", 3, "go", 5)), ()))
        self.is_way(APART, alone(4, 2, [("says", 3, "b", None)]))
        self.is_way(APART, ((), (), (("says", 3, "a", "lef"),), (("hears", 2, "a", "lef"), ("says", 2, "c", None))))

    def test_each_word_and_value_is_kept(self):
        for value in values_of(("row", SIDE, 2)):
            logs = (BOUGHT[0][:3] + (("says", 2, "go", value),), BOUGHT[1], (("hears", 0, "go", value),))
            self.assertEqual(self.is_way(MARKET, logs)[-1], ("go", value))

    def test_cut_off_anywhere(self):
        for first in range(5):
            for second in range(4):
                for third in range(2):
                    logs = tuple(log[:length] for log, length in zip(BOUGHT, (first, second, third)))
                    self.is_as_told(MARKET, logs)
                    self.is_way(MARKET, cut(BOUGHT, (first, second, third)))

    def test_the_same_word_to_two_hands(self):
        grammar = (3, (say(0, 1, ("a", DIGIT, 1)), say(0, 2, ("a", DIGIT, 2)), say(0, 1, ("a", DIGIT, 3)), END))
        said = (("says", 1, "a", 1), ("says", 2, "a", 2), ("says", 1, "a", 3))
        logs = (said, (("hears", 0, "a", 1), ("hears", 0, "a", 3)), (("hears", 0, "a", 2),))
        self.assertEqual(self.is_way(grammar, logs), (("a", 1), ("a", 2), ("a", 3)))

    def test_long_logs(self):
        numbers = [number % 10 for number in range(500)]
        said = tuple(("says", 1, "n", number) for number in numbers)
        heard = tuple(("hears", 0, "n", number) for number in numbers)
        self.assertEqual(self.is_way(STREAM, (said, heard[:9])), tuple(("n", number) for number in numbers))
        self.unheard(STREAM, (said[:499], heard), 0, 1, 499)
        self.broke(STREAM, (said[:499] + heard[499:], heard), 0, 499)


class Broke(JudgeCase):
    # Each one alone with a log, whose last doing is the first one that is wrong.
    WRONG = (
        # At the first doing: it hears where it says, and says where it hears.
        (MARKET, 0, [("hears", 1, "ask", "lef")]),
        (MARKET, 0, [("hears", 1, "is", 7)]),
        (MARKET, 1, [("says", 0, "ask", "lef")]),
        (MARKET, 1, [("says", 0, "is", 7)]),
        (MARKET, 2, [("says", 0, "off", None)]),
        (STREAM, 1, [("says", 0, "sum", 7)]),
        (APART, 2, [("hears", 3, "c", None)]),
        # To or from another hand, one that is not there or itself among them.
        (MARKET, 0, [("says", 2, "ask", "lef")]),
        (MARKET, 0, [("says", 0, "ask", "lef")]),
        (MARKET, 0, [("says", 3, "ask", "lef")]),
        (MARKET, 0, [("says", -1, "ask", "lef")]),
        (MARKET, 1, [("hears", 2, "ask", "lef")]),
        (MARKET, 1, [("hears", 1, "ask", "lef")]),
        (MARKET, 2, [("hears", 10 ** 5000, "off", None)]),
        (ROUNDS, 3, [("hears", 1, "go", 3)]),
        # A word that is not there, or not there now.
        (MARKET, 0, [("says", 1, "bid", 3)]),
        (MARKET, 0, [("says", 1, "as", "lef")]),
        (MARKET, 0, [("says", 1, "", "lef")]),
        (MARKET, 1, [("hears", 0, "yes", None)]),
        (MARKET, 2, [("hears", 0, "ask", "lef")]),
        (APART, 0, [("says", 1, "b", None)]),
        # A value of another kind.
        (MARKET, 0, [("says", 1, "ask", "mid")]),
        (MARKET, 0, [("says", 1, "ask", None)]),
        (MARKET, 1, [("hears", 0, "ask", 7)]),
        (MARKET, 2, [("hears", 0, "go", ("lef", "lef", "lef"))]),
        (STREAM, 0, [("says", 1, "n", 10)]),
        (STREAM, 0, [("says", 1, "n", True)]),
        (STREAM, 0, [("says", 1, "z", 0)]),
        (STREAM, 1, [("hears", 0, "n", -1)]),
        # At a later one.
        (MARKET, 0, [asks(), asks()]),
        (MARKET, 0, [asks(), ("says", 1, "bid", 3)]),
        (MARKET, 0, [asks(), ("hears", 2, "is", 3)]),
        (MARKET, 0, [asks(), ("hears", 1, "is", "lef")]),
        (MARKET, 0, [asks(), ("hears", 1, "on", 3)]),
        (MARKET, 0, [asks(), ("hears", 1, "no", None), ("says", 1, "bye", None)]),
        (MARKET, 0, [asks(), ("hears", 1, "is", 3), ("says", 1, "bid", 10)]),
        (MARKET, 0, [asks(), ("hears", 1, "is", 3), ("says", 1, "bye", None), ("says", 2, "go", ())]),
        (MARKET, 0, [asks(), ("hears", 1, "is", 3), ("says", 1, "yes", None), ("says", 2, "off", None)]),
        (MARKET, 0, [asks(), ("hears", 1, "is", 3), ("says", 1, "yes", None), ("says", 1, "go", ())]),
        (MARKET, 1, [heard_asking(), heard_asking()]),
        (MARKET, 1, [heard_asking(), ("says", 0, "is", -1)]),
        (MARKET, 1, [heard_asking(), ("says", 0, "is", 1), ("hears", 0, "bid", 2), ("hears", 0, "bid", 2)]),
        (STREAM, 1, [("hears", 0, "n", 4), ("hears", 0, "z", None), ("hears", 0, "n", 4)]),
        (ROUNDS, 3, [("hears", 0, "go", 1), ("hears", 1, "go", 1), ("hears", 0, "go", 1)]),
        (ROUNDS, 1, [("says", 3, "go", 1), ("says", 3, "go", 2), ("says", 3, "no", None)]),
        # Behind its end.
        ((2, (END,)), 0, [("says", 1, "a", None)]),
        ((2, (END,)), 1, [("hears", 0, "a", None)]),
        (chain(2, hands=3), 2, [("hears", 0, "on", None)]),
        (chain(2), 0, [("says", 1, "on", None), ("says", 1, "on", None)]),
        (chain(2), 1, [("hears", 0, "on", None), ("hears", 0, "on", None)]),
        (MARKET, 2, [("hears", 0, "off", None), ("hears", 0, "off", None)]),
        (MARKET, 1, [heard_asking(), ("says", 0, "no", None), ("says", 0, "no", None)]),
        (APART, 3, [("hears", 2, "b", None), ("says", 2, "c", None), ("hears", 2, "b", None)]),
    )

    def test_one_hand_alone(self):
        for grammar, hand, log in self.WRONG:
            self.broke(grammar, alone(grammar[0], hand, log), hand, len(log) - 1)

    def test_all_else_was_kept_to(self):
        for grammar, hand, log in self.WRONG:
            others = tuple(done_on(grammar, other, made_way(Dice(3), grammar, 9)) for other in range(grammar[0]))
            self.broke(grammar, with_log(others, hand, log), hand, len(log) - 1)

    def test_what_stands_behind_the_first_wrong_one(self):
        for grammar, hand, log in self.WRONG:
            for behind in (log, log[:1], log[-1:] * 3, [asks()]):
                self.broke(grammar, alone(grammar[0], hand, log + behind), hand, len(log) - 1)

    def test_the_least_of_several_hands(self):
        wrong = ("says", 1, "x", None)
        for hands in ((0, 1), (0, 2), (1, 2), (0, 1, 2)):
            for lengths in ((0, 0, 0), (3, 2, 1), (1, 1, 0), (0, 3, 1)):
                logs = BOUGHT
                for hand in hands:
                    logs = with_log(logs, hand, BOUGHT[hand][:lengths[hand]] + (wrong,))
                self.broke(MARKET, logs, hands[0], len(logs[hands[0]]) - 1)

    def test_ahead_of_what_was_not_said(self):
        # Hand 1 heard what was not said, and hand 2, though behind it, broke the grammar.
        logs = ((), (heard_asking(),), (("hears", 1, "off", None),))
        self.broke(MARKET, logs, 2, 0)
        self.unheard(MARKET, with_log(logs, 2, ()), 0, 1, 0)
        logs = ((), (("hears", 0, "a", 3),), (), (("hears", 2, "b", None), ("hears", 2, "b", None)))
        self.broke(APART, logs, 3, 1)

    def test_odd_values(self):
        for odd in ODD_THINGS + ([7], ("lef",), 10 ** 5000):
            self.assertEqual(judge(MARKET, alone(3, 0, [asks(odd)])), ("broke", 0, 0))
            self.assertEqual(judge(MARKET, alone(3, 1, [heard_asking(), ("says", 0, "is", odd)]))[:2], (
                ("unheard", 0) if odd in (0, 1) and odd is not True and odd is not False else ("broke", 1)
            ))


class Unheard(JudgeCase):
    def test_a_word_that_was_not_said(self):
        self.unheard(MARKET, alone(3, 1, [heard_asking()]), 0, 1, 0)
        self.unheard(MARKET, alone(3, 2, [("hears", 0, "off", None)]), 0, 2, 0)
        self.unheard(MARKET, alone(3, 0, [asks(), ("hears", 1, "no", None)]), 1, 0, 0)
        self.unheard(STREAM, alone(2, 1, [("hears", 0, "z", None), ("says", 0, "sum", 0)]), 0, 1, 0)
        self.unheard(APART, alone(4, 3, [("hears", 2, "b", None)]), 2, 3, 0)

    def test_another_word_than_was_said(self):
        self.unheard(STREAM, ((("says", 1, "n", 4),), (("hears", 0, "z", None),)), 0, 1, 0)
        logs = ((asks(), ("hears", 1, "no", None)), BOUGHT[1][:2], ())
        self.unheard(MARKET, logs, 1, 0, 0)
        # The words are said with the same value.
        grammar = (2, (say(0, 1, ("a", 1), ("b", 1)), END))
        self.unheard(grammar, ((("says", 1, "a", None),), (("hears", 0, "b", None),)), 0, 1, 0)

    def test_another_value_than_was_said(self):
        self.unheard(MARKET, with_log(BOUGHT, 1, (heard_asking("rig"),) + BOUGHT[1][1:]), 0, 1, 0)
        self.unheard(MARKET, with_log(BOUGHT, 2, [("hears", 0, "go", ("rig", "rig"))]), 0, 2, 0)
        self.unheard(MARKET, with_log(BOUGHT, 2, [("hears", 0, "go", ())]), 0, 2, 0)
        self.unheard(MARKET, with_log(BOUGHT, 0, BOUGHT[0][:1] + (("hears", 1, "is", 6),) + BOUGHT[0][2:]), 1, 0, 0)

    def test_at_a_later_word(self):
        said = [("says", 1, "n", number) for number in (3, 1, 4)]
        for k in range(3):
            heard = [("hears", 0, "n", number) for number in (3, 1, 4)]
            heard[k] = ("hears", 0, "n", 9)
            self.unheard(STREAM, (tuple(said), tuple(heard)), 0, 1, k)

    def test_more_words_heard_than_said(self):
        for count in range(5):
            said = tuple(("says", 1, "n", 5) for number in range(count))
            heard = tuple(("hears", 0, "n", 5) for number in range(count + 2))
            self.unheard(STREAM, (said, heard), 0, 1, count)
            self.is_way(STREAM, (said, heard[:count]))

    def test_the_least_number_of_several(self):
        said = tuple(("says", 1, "n", number) for number in (1, 2, 3, 4))
        heard = tuple(("hears", 0, "n", number) for number in (1, 3, 2, 4, 5))
        self.unheard(STREAM, (said, heard), 0, 1, 1)

    def test_said_but_later_or_earlier(self):
        said = (("says", 1, "n", 1), ("says", 1, "n", 2))
        self.unheard(STREAM, (said, (("hears", 0, "n", 2),)), 0, 1, 0)
        self.unheard(STREAM, (said, (("hears", 0, "n", 1), ("hears", 0, "n", 1))), 0, 1, 1)

    def test_words_are_counted_for_each_pair(self):
        # As its second doing hand 3 hears its first word from hand 1, and as its fourth the second one from hand 0.
        said = (("says", 3, "go", 1), ("says", 3, "go", 2))
        heard = (("hears", 0, "go", 1), ("hears", 1, "go", 1), ("hears", 2, "go", 1), ("hears", 0, "go", 2))
        logs = (said, said[:1], said[:1], heard)
        self.is_way(ROUNDS, logs)
        self.unheard(ROUNDS, with_log(logs, 1, ()), 1, 3, 0)
        self.unheard(ROUNDS, with_log(logs, 1, [("says", 3, "go", 7)]), 1, 3, 0)
        self.unheard(ROUNDS, with_log(logs, 0, said[:1]), 0, 3, 1)
        self.unheard(ROUNDS, with_log(logs, 3, heard[:3] + (("hears", 0, "go", 3),)), 0, 3, 1)

    def test_said_to_another_hand(self):
        grammar = (3, (say(0, 1, ("a", 1)), say(0, 2, ("a", 2)), END))
        self.unheard(grammar, ((("says", 1, "a", None),), (), (("hears", 0, "a", None),)), 0, 2, 0)

    def test_said_by_another_hand(self):
        grammar = (3, (say(0, 2, ("a", 1)), say(1, 2, ("a", 2)), END))
        self.unheard(grammar, ((), (("says", 2, "a", None),), (("hears", 0, "a", None),)), 0, 2, 0)

    def test_the_first_pair_of_several(self):
        # The pairs that heard something else: in order, whatever the numbers of the words.
        logs = (
            (("says", 1, "a", 1), ("hears", 1, "c", None)), (("hears", 0, "a", 2),),
            (("says", 3, "b", None),), (("hears", 2, "a", "rig"),),
        )
        self.unheard(APART, logs, 0, 1, 0)
        logs = with_log(logs, 1, [("hears", 0, "a", 1)])
        self.unheard(APART, logs, 1, 0, 0)
        logs = with_log(logs, 1, [("hears", 0, "a", 1), ("says", 0, "c", None)])
        self.unheard(APART, logs, 2, 3, 0)
        logs = with_log(logs, 3, [("hears", 2, "b", None)])
        self.is_way(APART, logs)

    def test_the_sayer_comes_first_in_the_order_of_pairs(self):
        # Pair (0, 3) with its word number 1 comes ahead of (1, 0) and (1, 3) with their words number 0.
        grammar = (4, (
            say(0, 3, ("a", 1)), say(0, 3, ("a", 2)), say(1, 0, ("a", 3)), say(1, 3, ("a", 4)), say(3, 0, ("a", 5)),
            END,
        ))
        heard = (("hears", 0, "a", None), ("hears", 0, "a", None), ("hears", 1, "a", None))
        logs = ((("says", 3, "a", None),), (), (), heard)
        self.unheard(grammar, logs, 0, 3, 1)
        said = (("says", 3, "a", None), ("says", 3, "a", None), ("hears", 1, "a", None), ("hears", 3, "a", None))
        self.unheard(grammar, with_log(logs, 0, said), 1, 0, 0)
        logs = with_log(with_log(logs, 0, said), 1, [("says", 0, "a", None)])
        self.unheard(grammar, logs, 1, 3, 0)
        logs = with_log(logs, 1, [("says", 0, "a", None), ("says", 3, "a", None)])
        self.unheard(grammar, logs, 3, 0, 0)
        self.is_way(grammar, with_log(logs, 3, heard + (("says", 0, "a", None),)))


class Refusals(JudgeCase):
    def test_no_part_whatever_the_logs_say(self):
        wrong = (("says", 9, "x", 4),)
        for wider in (NoPart, TalkError, ValueError):
            for logs in (((),) * 3, BOUGHT, (wrong, wrong, wrong), ((), (heard_asking(),), ())):
                with self.assertRaises(wider):
                    judge(TRADE, logs)

    def test_whichever_hand_has_no_part(self):
        for hands in ((0, 1, 2), (1, 2, 0), (2, 0, 1), (0, 2, 1)):
            grammar = renamed(TRADE, hands, (0, 1, 2, 3, 4))
            for hand in range(3):
                with self.assertRaises(NoPart):
                    judge(grammar, alone(3, hand, [("says", hand, "x", None)]))

    def test_told_or_refused(self):
        for grammar in made_grammars()[::3]:
            if is_fair(grammar):
                self.is_way(grammar, ((),) * grammar[0])
            else:
                with self.assertRaises(NoPart):
                    judge(grammar, ((),) * grammar[0])


class ManyLogs(JudgeCase):
    def test_what_was_done_on_ways(self):
        dice = Dice(101)
        for grammar in fair_grammars():
            for round_number in range(3):
                way = made_way(dice, grammar, 12)
                self.is_way(grammar, tuple(done_on(grammar, hand, way) for hand in range(grammar[0])))

    def test_what_was_done_in_halls(self):
        dice = Dice(103)
        for grammar in fair_grammars():
            for late in (None,) + tuple(range(grammar[0])):
                self.is_way(grammar, run_logs(dice, grammar, dice.below(20), late))

    def test_cut_off_anywhere(self):
        dice = Dice(107)
        for grammar in fair_grammars():
            logs = run_logs(dice, grammar, 20)
            for round_number in range(4):
                lengths = [dice.below(len(log) + 1) for log in logs]
                self.is_way(grammar, cut(logs, lengths))
                self.is_as_told(grammar, tuple(log[:length] for log, length in zip(logs, lengths)))

    def test_each_hand_by_its_part_alone(self):
        # Hands are walked one behind the other, in any order, and what is heard of later ones is guessed.
        dice = Dice(109)
        told = {"way": 0, "unheard": 0}
        for grammar in fair_grammars():
            parts = [part_by_sets(grammar, hand) for hand in range(grammar[0])]
            for round_number in range(6):
                logs = {}
                for hand in made_numbers(dice, grammar[0]):
                    mail = {other: letters(log, "says", hand) for other, log in logs.items()}
                    logs[hand] = walked(dice, parts[hand], dice.below(5), mail)
                told[self.is_as_told(grammar, tuple(logs[hand] for hand in range(grammar[0])))] += 1
        self.assertGreater(min(told.values()), 100)

    def test_logs_with_a_change(self):
        dice = Dice(113)
        told = {"way": 0, "unheard": 0, "broke": 0}
        for grammar in fair_grammars():
            for round_number in range(4):
                logs = run_logs(dice, grammar, 4 + dice.below(12))
                for change in range(1 + dice.below(2)):
                    logs = self.changed_logs(dice, logs)
                told[self.is_as_told(grammar, logs)] += 1
        self.assertGreater(min(told.values()), 40)

    def changed_logs(self, dice, logs):
        hand = dice.one_of([hand for hand, log in enumerate(logs) if log] or [0])
        log = list(logs[hand])
        spot = dice.below(len(log) + 1)
        change = dice.below(7)
        if change == 6:
            log = log[:spot]
        elif change == 0 or spot == len(log):
            log.insert(spot, (dice.one_of(("says", "hears")), (hand + 1) % len(logs), dice.one_of("abc"), None))
        elif change == 1:
            log.pop(spot)
        else:
            changed = list(log[spot])
            changed[change - 2] = dice.one_of((
                ("says", "hears"), range(len(logs)), ("a", "b", "c"), (None, 0, 1, "lef", "rig", ()),
            )[change - 2])
            log[spot] = tuple(changed)
        return with_log(logs, hand, log)

    def test_other_numbers_change_nothing(self):
        dice = Dice(127)
        for grammar in fair_grammars()[::2]:
            hands = made_numbers(dice, grammar[0])
            told = renamed(grammar, hands, made_numbers(dice, len(grammar[1]), fixed=1))
            logs = self.changed_logs(dice, run_logs(dice, grammar, 10))
            others = [()] * grammar[0]
            for hand, log in enumerate(logs):
                others[hands[hand]] = tuple((doing[0], hands[doing[1]]) + doing[2:] for doing in log)
            self.assertEqual(self.is_as_told(told, tuple(others)), judge(grammar, logs)[0])


class AllThatIsTold(JudgeCase):
    def test_the_same_is_told_again_and_nothing_is_changed(self):
        dice = Dice(131)
        for grammar in fair_grammars()[::3]:
            logs = run_logs(dice, grammar, 12)
            for given in (logs, logs[1:] + logs[:1], tuple(log[1:] for log in logs)):
                kept = copy.deepcopy((grammar, given))
                told = judge(grammar, given)
                self.assertEqual(judge(grammar, given), told)
                self.assertEqual(judge(*copy.deepcopy(kept)), told)
                self.assertEqual((grammar, given), kept)
                self.assertTrue(is_plain(told))

    def test_numbers_are_whole(self):
        told = judge(MARKET, alone(3, 1, [heard_asking()]))
        self.assertEqual([type(part) for part in told], [str, int, int, int])
        told = judge(MARKET, alone(3, 1, [asks()]))
        self.assertEqual([type(part) for part in told], [str, int, int])

    def test_a_kind_of_many_values(self):
        kind = ("row", ("pair", ("number", -10 ** 6, 10 ** 6), NONE), 9)
        grammar = (2, (say(0, 1, ("a", kind, 1)), END))
        value = ((10 ** 6, None),) * 9
        logs = ((("says", 1, "a", value),), (("hears", 0, "a", value),))
        self.assertEqual(judge(grammar, logs), ("way", (("a", value),)))
        self.assertEqual(judge(grammar, with_log(logs, 1, [("hears", 0, "a", value[1:])])), ("unheard", 0, 1, 0))
        self.assertEqual(judge(grammar, with_log(logs, 0, [("says", 1, "a", value * 2)])), ("broke", 0, 0))


if __name__ == "__main__":
    unittest.main()
