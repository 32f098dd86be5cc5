"""Point 6.5, and 0.3 of counts."""

import copy
import unittest

from helper import (
    DIGIT, END, MARKET, NONE, SIDE, TRADE, Dice, chain, fair_grammars, made_grammars, made_numbers, reached,
    rows_around, say, values_of,
)
from parleyturn.counts import count, soonest
from parleyturn.grammars import place_of, renamed
from parleyturn.joining import again, asked, followed, rooted
from parleyturn.kinds import how_many

LENGTHS = (0, 1, 2, 3, 7, 39, 40)


def all_ways(grammar, length):
    """All ways of a length, written out."""
    ways = [((), 0)]
    for step in range(length):
        ways = [
            (way + ((word, value),), to) for way, number in ways if grammar[1][number] != END
            for word, kind, to in grammar[1][number][3] for value in values_of(kind)
        ]
    return [way for way, number in ways]


def ways_from(grammar, length):
    """By place, how many ways of a length go on from there, counted from behind."""
    counts = [1] * len(grammar[1])
    for step in range(length):
        counts = [
            0 if place == END else sum(len(values_of(kind)) * counts[to] for word, kind, to in place[3])
            for place in grammar[1]
        ]
    return counts


def soonest_from(grammar, place):
    """Word by word, the places to which one can have come, until an end is among them."""
    group = {place}
    for words in range(len(grammar[1])):
        if any(grammar[1][number] == END for number in group):
            return words
        group = {choice[2] for number in group for choice in grammar[1][number][3]}
    return None


class Count(unittest.TestCase):
    def counts(self, grammar, **told):
        for length, wanted in told.items():
            self.assertEqual(count(grammar, int(length[1:])), wanted)

    def test_the_empty_way(self):
        for grammar in (MARKET, TRADE, chain(5), (2, (END,)), (4, (say(0, 1, ("a", 0)),))):
            self.assertEqual(count(grammar, 0), 1)

    def test_an_end_at_once(self):
        for hands in (2, 3, 4):
            self.counts((hands, (END,)), _0=1, _1=0, _3=0, _40=0)
            self.counts((hands, (END, say(0, 1, ("a", 0)))), _0=1, _1=0, _3=0, _40=0)

    def test_no_end(self):
        self.counts((2, (say(0, 1, ("a", 0)),)), _0=1, _1=1, _3=1, _40=1)
        self.counts((2, (say(0, 1, ("a", 0), ("b", 0)),)), _0=1, _1=2, _3=8, _40=2 ** 40)
        self.counts((2, (say(0, 1, ("a", DIGIT, 0), ("b", 0)),)), _0=1, _1=11, _3=1331, _40=11 ** 40)

    def test_ends_on_the_way(self):
        self.counts(chain(4), _0=1, _1=1, _2=1, _3=1, _4=0, _40=0)
        self.counts((2, (say(0, 1, ("a", 0), ("z", 1)), END)), _0=1, _1=2, _3=2, _40=2)
        self.counts((2, (say(0, 1, ("a", 1), ("b", 2)), END, say(1, 0, ("c", 1)))), _0=1, _1=2, _2=1, _3=0, _40=0)

    def test_ways_that_do_not_end_count_too(self):
        self.counts(MARKET, _0=1, _1=2, _2=22, _3=2 * 10 * 12 + 2, _4=2 * 10 * (10 * 11 + 1 + 7))

    def test_ways_that_come_together(self):
        # Two words lead to the same place, and are two ways.
        self.counts((2, (say(0, 1, ("a", 1), ("b", 1), ("c", 1)), say(1, 0, ("d", 2)), END)), _1=3, _2=3, _3=0)

    def test_each_one_is_the_sum_of_two_ahead(self):
        grammar = (2, (say(0, 1, ("a", 0), ("b", 1)), say(1, 0, ("c", 0))))
        self.counts(grammar, _0=1, _1=2, _2=3, _3=5, _4=8, _40=267914296)

    def test_kinds(self):
        for kind in (NONE, DIGIT, SIDE, ("pair", SIDE, DIGIT), ("row", SIDE, 3), ("number", 5, 5), ("row", NONE, 0)):
            many = len(values_of(kind))
            grammar = (2, (say(0, 1, ("a", kind, 0), ("z", 1)), END))
            self.counts(grammar, _1=many + 1, _3=many ** 3 + many ** 2, _40=many ** 40 + many ** 39)

    def test_kinds_with_many_values(self):
        wide = ("number", -1000000, 1000000)
        self.counts((2, (say(0, 1, ("a", wide, 0)),)), _1=2000001, _3=2000001 ** 3, _40=2000001 ** 40)
        rows = ("row", ("pair", wide, ("row", wide, 9)), 9)
        many = 2000001 * sum(2000001 ** length for length in range(10))
        many = sum(many ** length for length in range(10))
        self.assertEqual(how_many(rows), many)
        told = count((2, (say(0, 1, ("a", rows, 0), ("b", 0)),)), 40)
        self.assertEqual(told, (many + 1) ** 40)
        self.assertIs(type(told), int)
        self.assertGreater(told.bit_length(), 60000)

    def test_a_number_of_many_digits(self):
        # The kind's values alone make a number of some hundred thousand digits.
        kind = rows_around(("number", 0, 999999), 5, most=9)
        grammar = (2, (say(0, 1, ("a", kind, 1), ("b", kind, 1)), END))
        self.assertEqual(count(grammar, 1), 2 * how_many(kind))
        self.assertEqual(count(grammar, 2), 0)

    def test_ways_written_out(self):
        for grammar in made_grammars()[::4]:
            for length in range(4):
                ways = all_ways(grammar, length)
                self.assertEqual(count(grammar, length), len(ways))
                self.assertEqual(len(set(ways)), len(ways))
                self.assertTrue(all(place_of(grammar, way) is not None for way in ways[::7]))

    def test_counted_from_behind(self):
        for grammar in made_grammars()[::2] + fair_grammars():
            for length in LENGTHS:
                self.assertEqual(count(grammar, length), ways_from(grammar, length)[0], grammar)

    def test_beyond_the_bounds(self):
        grammar = (2, (say(0, 1, ("a", 0), ("b", 0)),))
        self.assertEqual(count(grammar, 41), 2 ** 41)
        self.assertEqual(count(grammar, 300), 2 ** 300)
        # No tuple is shorter than the empty one.
        self.assertEqual([count(grammar, length) for length in (-1, -2, -40)], [0, 0, 0])

    def test_other_numbers_change_nothing(self):
        dice = Dice(227)
        for grammar in made_grammars()[::5]:
            told = renamed(
                grammar, made_numbers(dice, grammar[0]), made_numbers(dice, len(grammar[1]), fixed=1)
            )
            for length in LENGTHS:
                self.assertEqual(count(told, length), count(grammar, length))
            self.assertEqual(count(rooted(grammar, 0), 5), count(grammar, 5))

    def test_grammars_put_together(self):
        for grammar in fair_grammars()[::4]:
            hands = grammar[0]
            told = asked((grammar, grammar, (hands, (END,))), 0, ("a", "b", "c"))
            self.assertEqual([count(told, length) for length in range(hands)], [1] + [3] * (hands - 1))
            for length in (1, 4, 30):
                self.assertEqual(count(told, hands - 1 + length), 2 * count(grammar, length))

    def test_whole_numbers_alone(self):
        for grammar in (MARKET, TRADE, (2, (END,)), chain(3)):
            for length in LENGTHS:
                self.assertIs(type(count(grammar, length)), int)


class Soonest(unittest.TestCase):
    def test_at_an_end(self):
        self.assertEqual(soonest((2, (END,)), 0), 0)
        self.assertEqual(soonest(MARKET, 5), 0)
        self.assertEqual(soonest((2, (END, END, say(0, 1, ("a", 1)))), 1), 0)

    def test_near_one_and_far_from_it(self):
        self.assertEqual([soonest(MARKET, place) for place in range(6)], [3, 2, 2, 1, 1, 0])
        self.assertEqual([soonest(chain(50), place) for place in range(50)], list(range(49, -1, -1)))

    def test_the_least_of_several(self):
        # The short way is the last choice, and another end lies behind a longer one.
        grammar = (2, (
            say(0, 1, ("a", 1), ("b", 3)), say(0, 1, ("a", 2)), say(0, 1, ("a", 4)), say(0, 1, ("a", 5)), END, END,
        ))
        self.assertEqual([soonest(grammar, place) for place in range(6)], [2, 2, 1, 1, 0, 0])

    def test_none_where_one_can_not(self):
        self.assertIsNone(soonest((2, (say(0, 1, ("a", 0)),)), 0))
        # There is an end, but one comes to it from place 2 alone.
        grammar = (2, (say(0, 1, ("a", 1)), say(1, 0, ("b", 0)), say(0, 1, ("c", 0), ("d", 3)), END))
        self.assertEqual([soonest(grammar, place) for place in range(4)], [None, None, 1, 0])

    def test_places_to_which_one_does_not_come(self):
        grammar = (2, (END, say(0, 1, ("a", 2)), say(0, 1, ("b", 0))))
        self.assertEqual([soonest(grammar, place) for place in range(3)], [0, 2, 1])

    def test_many(self):
        told = []
        for grammar in made_grammars():
            for place in range(len(grammar[1])):
                told.append(soonest(grammar, place))
                self.assertEqual(told[-1], soonest_from(grammar, place), (grammar, place))
                ends = [number for number in reached(grammar, {place}) if grammar[1][number] == END]
                self.assertEqual(told[-1] is None, not ends)
        self.assertTrue({None, 0, 1, 2, 3, 4} <= set(told))

    def test_grammars_put_together(self):
        for grammar in fair_grammars()[::4]:
            least = soonest(grammar, 0)
            hands = grammar[0]
            if least is not None:
                self.assertEqual(soonest(followed(grammar, chain(9, hands)), 0), least + 8)
                self.assertEqual(soonest(again(grammar, 1, "a", "b"), 0), least + hands - 1)
                self.assertEqual(soonest(asked((grammar, chain(40, hands)), 1, ("a", "b")), 0), least + hands - 1)

    def test_whole_numbers_alone(self):
        for place in range(6):
            self.assertIs(type(soonest(MARKET, place)), int)


class AllThatIsTold(unittest.TestCase):
    def test_the_same_is_told_again_and_nothing_is_changed(self):
        for grammar in made_grammars()[::9]:
            kept = copy.deepcopy(grammar)
            for length in LENGTHS:
                self.assertEqual(count(grammar, length), count(kept, length))
                self.assertEqual(count(grammar, length), count(grammar, length))
            for place in range(len(grammar[1])):
                self.assertEqual(soonest(grammar, place), soonest(kept, place))
                self.assertEqual(soonest(grammar, place), soonest(grammar, place))
            self.assertEqual(grammar, kept)


if __name__ == "__main__":
    unittest.main()
