"""Points 10.1 to 10.3, and 0.2 (h)."""

import copy
import unittest
from functools import lru_cache
from itertools import product

from helper import (
    DIGIT, END, MARKET, SIDE, TRADE, Dice, chain, ending_grammars, fair_grammars, goes_round, is_fair_by_sets, is_plain,
    made_grammars, made_numbers, made_way, part_by_sets, parts_of, say, values_of,
)
from parleyturn.errors import NoEnd, NoPart, TalkError
from parleyturn.grammars import place_of, renamed
from parleyturn.joining import asked, followed
from parleyturn.parts import part_of
from parleyturn.timing import clocked, longest, patience, slowest

BOUNDS = ((0, 0), (0, 1), (1, 0), (1, 1), (1, 9), (9, 1), (0, 1000), (1000, 0), (1000, 1000), (7, 3))

# Hand 0 asks hand 1, which answers, perhaps by way of hand 2.
ASKING = (3, (
    say(0, 1, ("ask", DIGIT, 1)), say(1, 2, ("no", 2), ("on", 3)), say(1, 0, ("no", 5)), say(2, 1, ("say", SIDE, 4)),
    say(1, 0, ("yes", SIDE, 5)), END,
))


def all_ways(grammar, number=0):
    """All ways of a grammar that has few, with the first value of each kind."""
    told = [()]
    if grammar[1][number] != END:
        for word, kind, to in grammar[1][number][3]:
            told += [((word, values_of(kind)[0]),) + way for way in all_ways(grammar, to)]
    return told


@lru_cache(maxsize=None)
def small_grammars():
    """Grammars, no way of which goes on for ever, with all their ways."""
    told = []
    for grammar in ending_grammars():
        ways = all_ways(grammar)
        if len(ways) <= 400:
            told.append((grammar, tuple(ways)))
    return tuple(told)


def talks_on(grammar, way):
    """For each word of a way who says it to whom."""
    return [grammar[1][place_of(grammar, way[:length])][1:3] for length in range(len(way))]


def times_on(talks, delays):
    """For each word when it is said and heard, and how long it was waited for; and all hands' times at the end."""
    at = {}
    told = []
    for (one, other), (wait, travel) in zip(talks, delays):
        said = at.get(one, 0) + wait
        at[one] = said
        since = at.get(other, 0)
        heard = said + travel if said + travel > since else since
        at[other] = heard
        told.append((said, heard, heard - since))
    return told, at


def waited(talks, delays):
    return times_on(talks, delays)[0][-1][2]


def most_waited(talks, wait, travel):
    """How long the last word can be waited for, all delays being tried that are 0 or as great as may be."""
    delays = [(one, other) for one in {0, wait} for other in {0, travel}]
    return max(waited(talks, tried) for tried in product(delays, repeat=len(talks)))


def learned(talks):
    """What the hand that hears the last word has learned of when it begins to wait: ("says" or "hears", number)."""
    leads = {}
    last = {}
    for number, (one, other) in enumerate(talks):
        leads["says", number] = [last[one]] if one in last else []
        last[one] = ("says", number)
        leads["hears", number] = [("says", number)] + ([last[other]] if other in last else [])
        # What it did ahead of the last word is where its wait begins.
        begun = last.get(other)
        last[other] = ("hears", number)
    found = set()
    waiting = [] if begun is None else [begun]
    while waiting:
        doing = waiting.pop()
        found.add(doing)
        waiting += [ahead for ahead in leads[doing] if ahead not in found]
    return found


def slowing(talks, wait, travel):
    known = learned(talks)
    return [
        (0 if ("says", number) in known else wait, 0 if ("hears", number) in known else travel)
        for number in range(len(talks))
    ]


def state_on(grammar, hand, way):
    """The state of a hand's part to which what it does on a way leads."""
    part = part_by_sets(grammar, hand)
    state = 0
    for (word, value), talk in zip(way, talks_on(grammar, way)):
        if hand in talk:
            state = {choice[0]: choice[2] for choice in part[state][2]}[word]
    return state


def patience_by_ways(grammar, ways, wait, travel, most):
    """For each hand the greatest waits, by state: way by way, as most(talks, wait, travel) tells of the last word."""
    told = [[None] * len(part) for part in parts_of(grammar)]
    for way in ways:
        if way:
            talks = talks_on(grammar, way)
            hand = talks[-1][1]
            state = state_on(grammar, hand, way[:-1])
            told[hand][state] = max(told[hand][state] or 0, most(talks, wait, travel))
    return [tuple(times) for times in told]


def made_delays(dice, length, wait, travel):
    return tuple((dice.below(wait + 1), dice.below(travel + 1)) for number in range(length))


class TimingCase(unittest.TestCase):
    def refuses(self, refusals, function, *given):
        with self.assertRaises(refusals) as taken:
            function(*given)
        self.assertIsInstance(taken.exception, TalkError)

    def is_slowest(self, grammar, hand, state, wait, travel, time):
        way, delays = slowest(grammar, hand, state, wait, travel)
        self.assertTrue(is_plain((way, delays)))
        self.assertIsNotNone(place_of(grammar, way), (grammar, way))
        self.assertEqual(len(delays), len(way))
        self.assertTrue(all(0 <= delay[0] <= wait and 0 <= delay[1] <= travel for delay in delays))
        talks = talks_on(grammar, way)
        self.assertEqual(talks[-1][1], hand)
        self.assertEqual(state_on(grammar, hand, way[:-1]), state)
        self.assertEqual(waited(talks, delays), time)
        # By clocked too: what it did last, ahead of the last word, tells since when it waited.
        told = clocked(grammar, way, delays)
        own = [(talk, pair) for talk, pair in zip(talks[:-1], told) if hand in talk]
        since = own[-1][1][own[-1][0].index(hand)] if own else 0
        self.assertEqual(told[-1][1] - since, time)


class Clocked(TimingCase):
    def test_no_word(self):
        for grammar in (ASKING, MARKET, (2, (END,)), chain(3)):
            self.assertEqual(clocked(grammar, (), ()), ())

    def test_one_word(self):
        for wait, travel in BOUNDS:
            self.assertEqual(clocked(chain(3), (("on", None),), ((wait, travel),)), ((wait, wait + travel),))

    def test_delays_of_0(self):
        way = (("ask", 3), ("on", None), ("say", "lef"), ("yes", "rig"))
        self.assertEqual(clocked(ASKING, way, ((0, 0),) * 4), ((0, 0),) * 4)

    def test_several_words(self):
        way = (("ask", 3), ("on", None), ("say", "lef"), ("yes", "rig"))
        told = clocked(ASKING, way, ((2, 5), (1, 10), (0, 3), (4, 0)))
        self.assertEqual(told, ((2, 7), (8, 18), (18, 21), (25, 25)))

    def test_the_one_who_says_it_goes_on_from_when_it_said_it(self):
        way = (("on", None),) * 3
        self.assertEqual(clocked(chain(5), way, ((2, 50), (3, 50), (4, 50))), ((2, 52), (5, 55), (9, 59)))

    def test_a_word_that_comes_ahead_of_the_other_hands_time(self):
        # The first one comes late, and the others wait for it.
        way = (("on", None),) * 3
        self.assertEqual(clocked(chain(5), way, ((2, 50), (3, 1), (4, 1))), ((2, 52), (5, 52), (9, 52)))
        # The other hand says something itself first.
        grammar = (3, (say(1, 2, ("a", 1)), say(0, 1, ("b", 2)), END))
        way = (("a", None), ("b", None))
        self.assertEqual(clocked(grammar, way, ((30, 1), (2, 5))), ((30, 31), (2, 30)))
        self.assertEqual(clocked(grammar, way, ((30, 1), (20, 10))), ((30, 31), (20, 30)))
        self.assertEqual(clocked(grammar, way, ((30, 1), (20, 11))), ((30, 31), (20, 31)))

    def test_a_word_that_comes_behind_the_other_hands_time(self):
        grammar = (2, (say(0, 1, ("a", 1)), say(1, 0, ("b", 2)), END))
        self.assertEqual(clocked(grammar, (("a", None), ("b", None)), ((1, 2), (3, 4))), ((1, 3), (6, 10)))

    def test_hands_apart_have_their_own_times(self):
        grammar = (4, (say(0, 1, ("a", 1)), say(2, 3, ("b", 2)), say(1, 3, ("c", 3)), END))
        way = (("a", None), ("b", None), ("c", None))
        self.assertEqual(clocked(grammar, way, ((100, 1), (2, 3), (4, 5))), ((100, 101), (2, 5), (105, 110)))

    def test_very_great_delays(self):
        great = 10 ** 40
        way = (("on", None),) * 2
        told = clocked(chain(3), way, ((great, 1), (1, great)))
        self.assertEqual(told, ((great, great + 1), (great + 1, 2 * great + 1)))

    def test_values_lead_on_as_words_do(self):
        way = (("ask", "rig"), ("is", 7), ("bid", 5), ("is", 0), ("yes", None), ("go", ("lef", "rig")))
        self.assertEqual(clocked(MARKET, way, ((1, 1),) * 6), ((1, 2), (3, 4), (5, 6), (7, 8), (9, 10), (10, 11)))

    def test_ways_that_go_round(self):
        grammar = (2, (say(0, 1, ("a", 1)), say(1, 0, ("b", 0))))
        told = clocked(grammar, (("a", None), ("b", None)) * 200, ((1, 2),) * 400)
        self.assertEqual(told, tuple((3 * number + 1, 3 * number + 3) for number in range(400)))

    def test_a_grammar_that_is_not_fair(self):
        way = (("ask", "rig"), ("no", None))
        self.assertEqual(clocked(TRADE, way, ((1, 2), (3, 4))), ((1, 3), (6, 10)))

    def test_more_places_and_choices(self):
        grammar = (2, chain(90)[1][:-1] + (say(1, 0, *[(word, 90) for word in "abcdefgh"]), END))
        way = (("on", None),) * 89 + (("g", None),)
        told = clocked(grammar, way, ((1, 5),) * 90)
        self.assertEqual(told, tuple((number, number + 5) for number in range(1, 90)) + ((95, 100),))

    def test_many(self):
        dice = Dice(601)
        for grammar in made_grammars()[::2]:
            way = made_way(dice, grammar, dice.below(20))
            for wait, travel in ((3, 3), (0, 9), (9, 0), (10 ** 12, 5)):
                delays = made_delays(dice, len(way), wait, travel)
                told = times_on(talks_on(grammar, way), delays)[0]
                self.assertEqual(clocked(grammar, way, delays), tuple(times[:2] for times in told))


class Longest(TimingCase):
    def test_an_end_at_once(self):
        for wait, travel in BOUNDS:
            self.assertEqual(longest((2, (END,)), wait, travel), 0)
            self.assertEqual(longest((4, (END, say(0, 1, ("a", 1)))), wait, travel), 0)

    def test_one_behind_the_other(self):
        # Hand 0 says all, so only the last letter's travel counts.
        for wait, travel in BOUNDS:
            for length in (2, 3, 10):
                self.assertEqual(longest(chain(length), wait, travel), (length - 1) * wait + travel)

    def test_to_and_fro(self):
        places = tuple(say(number % 2, 1 - number % 2, ("a", number + 1)) for number in range(10))
        for wait, travel in BOUNDS:
            self.assertEqual(longest((2, places + (END,)), wait, travel), 10 * (wait + travel))

    def test_the_longest_of_several_ways(self):
        for wait, travel in BOUNDS:
            self.assertEqual(longest(ASKING, wait, travel), 4 * (wait + travel))
        # By the first word others wait, by the second one letters travel.
        grammar = (3, (
            say(0, 1, ("a", 1), ("b", 3)), say(0, 1, ("a", 2)), say(0, 1, ("a", 5)), say(1, 2, ("b", 4)),
            say(2, 0, ("b", 5)), END,
        ))
        for wait, travel in BOUNDS:
            self.assertEqual(longest(grammar, wait, travel), max(3 * wait + travel, 3 * wait + 3 * travel))
        grammar = (2, (
            say(0, 1, ("a", 1), ("b", 4)), say(0, 1, ("a", 2)), say(0, 1, ("a", 3)), END, say(1, 0, ("b", 3)),
        ))
        for wait, travel in BOUNDS:
            self.assertEqual(longest(grammar, wait, travel), max(3 * wait + travel, 2 * wait + 2 * travel))

    def test_several_ends(self):
        for one, other in ((1, 2), (2, 1)):
            grammar = (2, (say(0, 1, ("a", one), ("b", other)), END, say(1, 0, ("c", 3)), END))
            for wait, travel in BOUNDS:
                self.assertEqual(longest(grammar, wait, travel), 2 * (wait + travel))

    def test_hands_apart(self):
        # They talk at the same time, and only the longer talk counts.
        for one, other in ((3, 5), (5, 3), (4, 4)):
            places = [say(0, 1, ("a", number + 1)) for number in range(one)]
            places += [say(2, 3, ("b", one + number + 1)) for number in range(other)]
            for wait, travel in BOUNDS:
                told = max(one, other) * wait + travel
                self.assertEqual(longest((4, tuple(places) + (END,)), wait, travel), told)

    def test_the_hand_that_is_last_need_not_be_the_one_of_the_last_word(self):
        grammar = (4, (say(0, 1, ("a", 1)), say(1, 0, ("a", 2)), say(2, 3, ("b", 3)), END))
        self.assertEqual(longest(grammar, 1, 10), 22)

    def test_each_hand_may_be_late_on_another_way(self):
        # On one way hands 0 and 1 are late, on the other one hands 2 and 3; then hands 1 and 3 talk.
        grammar = (4, (
            say(0, 2, ("a", 1), ("b", 2)), say(0, 1, ("x", 3)), say(2, 3, ("y", 3)), say(1, 3, ("z", 4)), END,
        ))
        for wait, travel in BOUNDS:
            self.assertEqual(longest(grammar, wait, travel), 3 * wait + 2 * travel)

    def test_very_many_ways(self):
        places = [say(number % 3, (number + 1) % 3, ("a", number + 1), ("b", number + 1)) for number in range(200)]
        self.assertEqual(longest((3, tuple(places) + (END,)), 2, 5), 1400)

    def test_a_grammar_that_is_not_fair(self):
        grammar = (3, (say(0, 1, ("no", 2), ("yes", 1)), say(0, 2, ("go", 2)), END))
        self.assertFalse(is_fair_by_sets(grammar))
        self.assertEqual(longest(grammar, 3, 10), 16)

    def test_no_end(self):
        loops = (
            (2, (say(0, 1, ("a", 0)),)), (2, (say(0, 1, ("a", 0), ("b", 1)), END)), MARKET, TRADE,
            (2, (say(0, 1, ("a", 1)), say(1, 0, ("b", 0), ("c", 2)), END)),
            (2, (say(0, 1, ("a", 1), ("b", 2)), END, say(0, 1, ("a", 2)))),
            (2, (say(0, 1, ("a", 1)), say(0, 1, ("a", 2)), say(0, 1, ("a", 3), ("b", 4)), say(0, 1, ("a", 1)), END)),
        )
        for grammar in loops:
            for wait, travel in BOUNDS:
                self.refuses(NoEnd, longest, grammar, wait, travel)

    def test_places_that_go_round_where_no_way_comes(self):
        grammar = (2, (say(0, 1, ("a", 1)), END, say(0, 1, ("a", 2)), say(1, 0, ("b", 2), ("c", 0), ("d", 3))))
        self.assertEqual(longest(grammar, 3, 4), 7)
        self.assertEqual(longest((2, (END, say(0, 1, ("a", 1)))), 3, 4), 0)

    def test_ways_that_come_together_do_not_go_round(self):
        grammar = (2, (
            say(0, 1, ("a", 1), ("b", 2), ("c", 3)), say(0, 1, ("a", 2), ("b", 3)), say(0, 1, ("a", 3)), END,
        ))
        self.assertEqual(longest(grammar, 1, 0), 3)

    def test_all_ways(self):
        for grammar, ways in small_grammars():
            ended = [talks_on(grammar, way) for way in ways if grammar[1][place_of(grammar, way)] == END]
            for wait, travel in BOUNDS[3:6]:
                told = [max(times_on(talks, [(wait, travel)] * len(talks))[1].values(), default=0) for talks in ended]
                self.assertEqual(longest(grammar, wait, travel), max(told))

    def test_told_or_refused(self):
        refused = 0
        for grammar in made_grammars()[::2]:
            if goes_round(grammar):
                refused += 1
                self.refuses(NoEnd, longest, grammar, 3, 4)
            else:
                self.assertGreaterEqual(longest(grammar, 3, 4), 0)
        self.assertGreater(refused, 100)


class Patience(TimingCase):
    def test_to_and_fro(self):
        grammar = (2, (say(0, 1, ("ask", 1)), say(1, 0, ("no", 2), ("yes", 2)), END))
        for wait, travel in BOUNDS:
            self.assertEqual(patience(grammar, 0, wait, travel), (None, wait + 2 * travel, None))
            self.assertEqual(patience(grammar, 1, wait, travel), (wait + travel, None, None))

    def test_an_end_at_once(self):
        for hands in (2, 3, 4):
            for hand in range(hands):
                self.assertEqual(patience((hands, (END,)), hand, 9, 9), (None,))

    def test_a_hand_that_does_nothing(self):
        self.assertEqual(patience(chain(5, hands=3), 2, 9, 9), (None,))

    def test_none_for_states_in_which_it_does_not_hear(self):
        for grammar in ending_grammars():
            for hand, part in enumerate(parts_of(grammar)):
                told = patience(grammar, hand, 1, 2)
                self.assertEqual([time is None for time in told], [state[0] != "hears" for state in part])

    def test_letters_that_come_one_behind_the_other(self):
        # When hand 1 has heard the first word it waits from then on; the second one was said only wait later.
        for wait, travel in BOUNDS:
            self.assertEqual(patience(chain(4), 1, wait, travel), (wait + travel,) * 3 + (None,))
            self.assertEqual(patience(chain(4), 0, wait, travel), (None,) * 4)

    def test_by_way_of_others(self):
        for wait, travel in BOUNDS:
            whole = wait + travel
            self.assertEqual(patience(ASKING, 0, wait, travel), (None, travel + 3 * whole, None))
            self.assertEqual(patience(ASKING, 1, wait, travel), (whole, None, None, travel + whole, None, None))
            self.assertEqual(patience(ASKING, 2, wait, travel), (2 * whole, None, None, None))

    def test_what_the_hand_has_learned_of_does_not_count(self):
        # Hand 3 hears from hand 2 behind what hand 1 said to it; what hand 1 then says to it is late by itself alone.
        grammar = (4, (say(0, 1, ("a", 1)), say(1, 2, ("b", 2)), say(2, 3, ("c", 3)), say(1, 3, ("d", 4)), END))
        for wait, travel in BOUNDS:
            self.assertEqual(patience(grammar, 3, wait, travel), (3 * (wait + travel), wait + travel, None))

    def test_what_the_hand_has_not_learned_of_counts_from_the_beginning(self):
        # Hand 3 hears from hand 2 first, but hands 0 and 1 talked at the same time, or earlier.
        first = (4, (say(0, 1, ("a", 1)), say(2, 3, ("b", 2)), say(1, 3, ("c", 3)), END))
        second = (4, (say(2, 3, ("b", 1)), say(0, 1, ("a", 2)), say(1, 3, ("c", 3)), END))
        for grammar in (first, second):
            for wait, travel in BOUNDS:
                self.assertEqual(patience(grammar, 3, wait, travel), (wait + travel, 2 * (wait + travel), None))

    def test_a_word_under_way_of_which_the_hand_has_learned_that_it_was_said(self):
        # Hand 1 writes to hand 2, then to hand 3, which waits for hand 2: of the first letter its travel counts alone.
        grammar = (4, (say(1, 2, ("x", 1)), say(1, 3, ("y", 2)), say(2, 3, ("z", 3)), END))
        for wait, travel in BOUNDS:
            self.assertEqual(patience(grammar, 3, wait, travel), (2 * wait + travel, wait + 2 * travel, None))

    def test_what_others_learned_of_it_too(self):
        # Hand 0 is late, and hand 1 hears of it, and tells hand 3 something; then hand 3 waits for hand 2.
        grammar = (4, (
            say(0, 2, ("a", 1)), say(0, 1, ("b", 2)), say(1, 3, ("c", 3)), say(2, 3, ("d", 4)), END,
        ))
        for wait, travel in BOUNDS:
            self.assertEqual(patience(grammar, 3, wait, travel), (3 * wait + 2 * travel, wait + 2 * travel, None))

    def test_the_hand_itself_said_what_came_late(self):
        grammar = (3, (say(0, 1, ("a", 1)), say(0, 2, ("b", 2)), say(1, 2, ("c", 3)), say(2, 0, ("d", 4)), END))
        for wait, travel in BOUNDS:
            # Hand 0 begins to wait when it has said b; both its letters may travel long.
            self.assertEqual(patience(grammar, 0, wait, travel), (None, None, 2 * wait + 3 * travel, None))
            self.assertEqual(patience(grammar, 2, wait, travel), (2 * wait + travel, wait + 2 * travel, None, None))

    def test_the_longest_of_several_ways_to_one_state(self):
        # Hand 2 can't tell whether others went to and fro ahead of what it hears.
        grammar = (3, (
            say(0, 1, ("a", 1), ("b", 3)), say(1, 0, ("c", 2)), say(0, 1, ("d", 3)), say(1, 2, ("e", 4)), END,
        ))
        for wait, travel in BOUNDS:
            self.assertEqual(patience(grammar, 2, wait, travel), (4 * (wait + travel), None))

    def test_states_apart(self):
        # By what hand 1 hears it knows for whom it waits then, and how long.
        grammar = (3, (
            say(0, 1, ("a", 1), ("b", 2)), say(0, 1, ("c", 5)), say(0, 2, ("x", 3)), say(2, 0, ("y", 4)),
            say(0, 1, ("z", 6)), say(0, 2, ("x", 7)), END, say(2, 0, ("y", 6)),
        ))
        self.assertTrue(is_fair_by_sets(grammar))
        for wait, travel in BOUNDS:
            told = patience(grammar, 1, wait, travel)
            self.assertEqual(told, (wait + travel, wait + travel, 3 * (wait + travel), None, None))

    def test_very_many_ways(self):
        places = [say(number % 3, (number + 1) % 3, ("a", number + 1), ("b", number + 1)) for number in range(150)]
        grammar = (3, tuple(places) + (END,))
        # A word goes round while a hand waits: its own travels, that of the next one and that of the one behind it.
        told = patience(grammar, 1, 2, 5)
        self.assertEqual(told[0], 7)
        self.assertEqual(set(told[1:]), {None, 19})
        self.is_slowest(grammar, 1, len(told) - 3, 2, 5, 19)

    def test_all_delays_of_0_or_as_great_as_may_be(self):
        tried = 0
        for grammar, ways in small_grammars():
            if max(map(len, ways)) <= 4:
                tried += 1
                for wait, travel in ((1, 9), (9, 1)):
                    told = patience_by_ways(grammar, ways, wait, travel, most_waited)
                    for hand in range(grammar[0]):
                        self.assertEqual(patience(grammar, hand, wait, travel), told[hand], (grammar, hand))
        self.assertGreater(tried, 40)

    def test_all_ways(self):
        def most(talks, wait, travel):
            return waited(talks, slowing(talks, wait, travel))
        for grammar, ways in small_grammars():
            for wait, travel in ((1, 9), (9, 1)):
                told = patience_by_ways(grammar, ways, wait, travel, most)
                for hand in range(grammar[0]):
                    self.assertEqual(patience(grammar, hand, wait, travel), told[hand], (grammar, hand))

    def test_nobody_ever_waits_longer(self):
        dice = Dice(607)
        for grammar in ending_grammars():
            wait, travel = dice.one_of(BOUNDS)
            told = [patience(grammar, hand, wait, travel) for hand in range(grammar[0])]
            most = longest(grammar, wait, travel)
            for round_number in range(6):
                way = made_way(dice, grammar, 20)
                talks = talks_on(grammar, way)
                delays = made_delays(dice, len(way), wait, travel)
                times, at = times_on(talks, delays)
                self.assertLessEqual(max(at.values(), default=0), most)
                for number, (one, other) in enumerate(talks):
                    state = state_on(grammar, other, way[:number])
                    self.assertLessEqual(times[number][2], told[other][state])

    def test_other_numbers_change_nothing(self):
        dice = Dice(613)
        for grammar in ending_grammars()[::2]:
            hands = made_numbers(dice, grammar[0])
            other = renamed(grammar, hands, made_numbers(dice, len(grammar[1]), fixed=1))
            wait, travel = dice.one_of(BOUNDS)
            self.assertEqual(longest(other, wait, travel), longest(grammar, wait, travel))
            for hand in range(grammar[0]):
                self.assertEqual(patience(other, hands[hand], wait, travel), patience(grammar, hand, wait, travel))

    def test_all_times_grow_with_the_bounds(self):
        for grammar in ending_grammars()[::3]:
            for hand in range(grammar[0]):
                one = patience(grammar, hand, 3, 5)
                self.assertEqual(patience(grammar, hand, 6, 10), tuple(time and 2 * time for time in one))
                self.assertEqual({time for time in patience(grammar, hand, 0, 0)} - {None, 0}, set())

    def test_more_places_and_choices(self):
        grammar = asked(tuple(chain(12, hands=3) for number in range(8)), 2, tuple("abcdefgh"))
        self.assertGreater(len(grammar[1]), 60)
        self.assertEqual(longest(grammar, 1, 1), 1 + 1 + 11 + 1)
        told = patience(grammar, 1, 1, 1)
        self.assertEqual(len(told), len(part_of(grammar, 1)))
        # It hears of what is chosen behind hand 0: hand 2 says it twice.
        self.assertEqual(told[0], 3)
        for state, time in enumerate(told):
            if time is not None:
                self.is_slowest(grammar, 1, state, 1, 1, time)
        grammar = followed(chain(100), chain(100))
        self.assertEqual(longest(grammar, 2, 3), 198 * 2 + 3)
        self.assertEqual(patience(grammar, 1, 2, 3), (5,) * 198 + (None,))

    def test_no_end(self):
        loop = (2, (say(0, 1, ("a", 0), ("b", 1)), END))
        longer_loop = (2, (say(0, 1, ("a", 1)), say(1, 0, ("b", 0))))
        for grammar in (MARKET, loop, longer_loop):
            for hand in range(grammar[0]):
                self.refuses(NoEnd, patience, grammar, hand, 3, 4)
        grammar = (2, (say(0, 1, ("a", 1)), END, say(0, 1, ("a", 2))))
        self.assertEqual(patience(grammar, 1, 3, 4), (7, None))

    def test_no_part(self):
        # Hand 2 alone has no part.
        grammar = (3, (say(0, 1, ("no", 2), ("yes", 1)), say(0, 2, ("go", 2)), END))
        for hand in range(3):
            self.refuses(NoPart, patience, grammar, hand, 3, 4)

    def test_neither_an_end_nor_parts(self):
        for hand in range(3):
            self.refuses((NoEnd, NoPart), patience, TRADE, hand, 3, 4)

    def test_told_or_refused(self):
        seen = {}
        for grammar in made_grammars():
            fair = is_fair_by_sets(grammar)
            if fair and not goes_round(grammar):
                continue
            refusals = ((NoEnd,) if goes_round(grammar) else ()) + (() if fair else (NoPart,))
            for hand in range(grammar[0]):
                self.refuses(refusals, patience, grammar, hand, 3, 4)
                self.refuses(refusals, slowest, grammar, hand, 0, 3, 4)
            seen[refusals] = seen.get(refusals, 0) + 1
        self.assertEqual(len(seen), 3)
        self.assertGreater(min(seen.values()), 10)


class Slowest(TimingCase):
    def test_to_and_fro(self):
        grammar = (2, (say(0, 1, ("ask", 1)), say(1, 0, ("yes", 2)), END))
        for wait, travel in BOUNDS:
            self.is_slowest(grammar, 0, 1, wait, travel, wait + 2 * travel)
            self.is_slowest(grammar, 1, 0, wait, travel, wait + travel)

    def test_by_way_of_others(self):
        for wait, travel in BOUNDS:
            self.is_slowest(ASKING, 0, 1, wait, travel, 3 * wait + 4 * travel)
            self.is_slowest(ASKING, 1, 3, wait, travel, wait + 2 * travel)
            self.is_slowest(ASKING, 2, 0, wait, travel, 2 * (wait + travel))
        way = slowest(ASKING, 0, 1, 3, 4)[0]
        self.assertEqual([word for word, value in way], ["ask", "on", "say", "yes"])

    def test_what_the_hand_has_learned_of_is_not_late(self):
        grammar = (4, (say(1, 2, ("x", 1)), say(1, 3, ("y", 2)), say(2, 3, ("z", 3)), END))
        self.is_slowest(grammar, 3, 1, 1, 10, 21)
        way, delays = slowest(grammar, 3, 1, 1, 10)
        self.assertEqual([word for word, value in way], ["x", "y", "z"])
        self.assertEqual(delays, ((0, 10), (0, 0), (1, 10)))

    def test_kinds(self):
        kind = ("pair", ("number", 5, 9), ("row", SIDE, 2))
        grammar = (2, (say(0, 1, ("a", kind, 1)), say(1, 0, ("b", SIDE, 2)), END))
        self.is_slowest(grammar, 0, 1, 3, 4, 11)
        self.is_slowest(grammar, 1, 0, 3, 4, 7)

    def test_long_ways(self):
        grammar = chain(400)
        self.is_slowest(grammar, 1, 398, 3, 4, 7)

    def test_no_end_and_no_part(self):
        self.refuses(NoEnd, slowest, MARKET, 1, 0, 3, 4)
        grammar = (3, (say(0, 1, ("no", 2), ("yes", 1)), say(0, 2, ("go", 2)), END))
        for hand in (1, 2):
            self.refuses(NoPart, slowest, grammar, hand, 0, 3, 4)

    def test_many(self):
        for grammar in ending_grammars():
            for wait, travel in ((1, 9), (1000, 1), (0, 0)):
                for hand in range(grammar[0]):
                    for state, time in enumerate(patience(grammar, hand, wait, travel)):
                        if time is not None:
                            self.is_slowest(grammar, hand, state, wait, travel, time)


class AllThatIsTold(TimingCase):
    def test_the_same_is_told_again_and_nothing_is_changed(self):
        dice = Dice(617)
        for grammar in ending_grammars()[::5]:
            way = made_way(dice, grammar, 20)
            calls = [(clocked, (grammar, way, made_delays(dice, len(way), 5, 7))), (longest, (grammar, 5, 7))]
            for hand, part in enumerate(parts_of(grammar)):
                calls.append((patience, (grammar, hand, 5, 7)))
                hearing = [number for number, state in enumerate(part) if state[0] == "hears"]
                calls += [(slowest, (grammar, hand, number, 5, 7)) for number in hearing]
            for function, given in calls:
                kept = copy.deepcopy(given)
                told = function(*given)
                self.assertTrue(is_plain(told))
                self.assertEqual(function(*copy.deepcopy(given)), told)
                self.assertEqual(given, kept)

    def test_whole_numbers_alone(self):
        for grammar in ending_grammars()[::9]:
            self.assertIs(type(longest(grammar, 0, 0)), int)
            for hand in range(grammar[0]):
                self.assertLessEqual({type(time) for time in patience(grammar, hand, 0, 1)}, {int, type(None)})

    def test_grammars_of_all_hands_are_looked_at(self):
        self.assertEqual({grammar[0] for grammar, ways in small_grammars()}, {2, 3, 4})
        self.assertGreater(len([grammar for grammar, ways in small_grammars() if grammar[1].count(END) > 1]), 20)
        self.assertTrue(any(goes_round(grammar) for grammar in fair_grammars()))


if __name__ == "__main__":
    unittest.main()
