"""Points 0.3 and 2.1 to 2.4: grammars and ways."""

import copy
import unittest
from itertools import permutations

from helper import DIGIT, NONE, ODD_THINGS, SIDE, TRADE, chain, is_plain, rows_around, shown
from parleyturn.grammars import done_on, is_grammar, place_of, renamed

END = ("end",)
ON = (("on", NONE, 1),)

ASK = ("ask", "lef")
HAGGLE = (ASK, ("is", 7), ("bid", 5), ("is", 6))
BOUGHT = HAGGLE + (("yes", None), ("go", ("rig", "lef")))


def grammar_of(choices, one=0, other=1, hands=2):
    return (hands, (("say", one, other, choices), END))


class GrammarCase(unittest.TestCase):
    def grammars_are(self, told, *things):
        for thing in things:
            self.assertIs(is_grammar(thing), told, shown(thing))


class IsGrammar(GrammarCase):
    def test_ordinary_ones(self):
        self.grammars_are(True, TRADE, (2, (END,)), grammar_of(ON), (2, (END, END)))
        self.grammars_are(True, (2, (("say", 1, 0, (("on", NONE, 0),)),)))

    def test_hands(self):
        self.grammars_are(True, *[grammar_of(ON, hands=hands) for hands in (2, 3, 4)])
        self.grammars_are(False, *[grammar_of(ON, hands=hands) for hands in (0, 1, 5, -2)])
        self.grammars_are(False, *[(hands, (END,)) for hands in (0, 1, 5, -2)])
        self.grammars_are(False, *[(odd, (END,)) for odd in (True, None, "2", (2,), [2], ())])

    def test_how_many_places(self):
        self.grammars_are(True, (2, (END,)), chain(2), chain(60))
        self.grammars_are(False, (2, ()), chain(61), (3, (END,) * 61))

    def test_who_says_and_hears(self):
        for hands in (2, 3, 4):
            for one in range(-1, hands + 1):
                for other in range(-1, hands + 1):
                    there = 0 <= one < hands and 0 <= other < hands and one != other
                    self.grammars_are(there, grammar_of(ON, one, other, hands))
        for odd in (True, False, None, "0", (0,), [0]):
            self.grammars_are(False, grammar_of(ON, odd, 1), grammar_of(ON, 0, odd))
            self.grammars_are(False, grammar_of(ON, odd, 2, 3), grammar_of(ON, 2, odd, 3))

    def test_how_many_choices(self):
        choices = tuple((word, NONE, 1) for word in "abcdef")
        self.grammars_are(True, *[grammar_of(choices[:count]) for count in (1, 2, 3, 4, 5)])
        self.grammars_are(False, grammar_of(()), grammar_of(choices))

    def test_choices_rise(self):
        self.grammars_are(True, grammar_of((("a", NONE, 1), ("ab", NONE, 0), ("b", NONE, 1))))
        self.grammars_are(False, grammar_of((("b", NONE, 1), ("a", NONE, 1))))
        self.grammars_are(False, grammar_of((("a", NONE, 1), ("c", NONE, 1), ("b", NONE, 1))))

    def test_no_word_twice(self):
        self.grammars_are(False, grammar_of((("a", NONE, 0), ("a", NONE, 0))))
        self.grammars_are(False, grammar_of((("a", NONE, 0), ("a", NONE, 1))))
        self.grammars_are(False, grammar_of((("a", NONE, 0), ("a", ("number", 0, 1), 0))))
        self.grammars_are(False, grammar_of((("a", NONE, 1), ("b", NONE, 1), ("b", SIDE, 1))))

    def test_words(self):
        self.grammars_are(True, *[grammar_of(((word, NONE, 1),)) for word in ("a", "z", "abc", "zzz")])
        odds = ("", "abcd", "A", "a1", " a", "a ", "~", "{", "`", "a-b", None, 1, True, ("a",), ["a"])
        self.grammars_are(False, *[grammar_of(((word, NONE, 1),)) for word in odds])

    def test_kinds(self):
        for kind in (NONE, DIGIT, SIDE, ("pair", NONE, SIDE), rows_around(NONE, 6)):
            self.grammars_are(True, grammar_of((("a", kind, 1),)))
        for odd in ODD_THINGS + (("number", 2, 1), rows_around(NONE, 7), ("row", NONE, 10)):
            self.grammars_are(False, grammar_of((("a", odd, 1),)))

    def test_next_places(self):
        self.grammars_are(True, grammar_of((("a", NONE, 0),)), grammar_of((("a", NONE, 1),)))
        odds = (-1, 2, 60, True, False, None, "1", (1,), [1])
        self.grammars_are(False, *[grammar_of((("a", NONE, odd),)) for odd in odds])

    def test_each_place_is_looked_at(self):
        good = (("say", 0, 1, ON), ("say", 1, 0, (("on", NONE, 2),)), END)
        self.grammars_are(True, (2, good))
        for number in range(3):
            for odd in ODD_THINGS + (("say",), ("end", 0), ("say", 0, 0, ON), ("end", 0, 1, ON), ("said", 0, 1, ON)):
                self.grammars_are(False, (2, good[:number] + (odd,) + good[number + 1:]))

    def test_each_choice_is_looked_at(self):
        good = (("a", NONE, 1), ("b", NONE, 1), ("c", NONE, 1))
        for number in range(3):
            for odd in ODD_THINGS + (("b", NONE), ("b", NONE, 1, 1), ("b", NONE, 2), ("b", None, 1)):
                self.grammars_are(False, grammar_of(good[:number] + (odd,) + good[number + 1:]))

    def test_lists_in_the_place_of_tuples(self):
        self.grammars_are(False, [2, (END,)], (2, [END]), (2, (["end"],)), (2, ["end"]), [2, [["end"]]])
        self.grammars_are(False, (2, (["say", 0, 1, ON], END)), grammar_of([("on", NONE, 1)]))
        self.grammars_are(False, grammar_of((["on", NONE, 1],)), grammar_of((("on", ["none"], 1),)))

    def test_lengths(self):
        self.grammars_are(False, (2,), (2, (END,), (END,)), (2, (END,), None), ((END,), 2))
        self.grammars_are(False, (2, (("say", 0, 1), END)), (2, (("say", 0, 1, ON, ON), END)))

    def test_things_that_are_no_grammar(self):
        self.grammars_are(False, *ODD_THINGS)
        for odd in ODD_THINGS:
            self.grammars_are(False, (2, odd), (odd, (END,)), (2, (odd,)), (odd, odd), (2, (("say", 0, 1, odd), END)))


class PlaceOf(GrammarCase):
    def test_the_empty_way(self):
        self.assertEqual(place_of(TRADE, ()), 0)
        self.assertEqual(place_of((2, (END,)), ()), 0)

    def test_ways_to_the_middle_and_to_an_end(self):
        places = (0, 1, 2, 1, 2, 3, 4)
        for length, place in enumerate(places):
            self.assertEqual(place_of(TRADE, BOUGHT[:length]), place)
        self.assertEqual(place_of(TRADE, (ASK, ("no", None))), 4)
        self.assertEqual(place_of(TRADE, HAGGLE + (("bye", None),)), 4)

    def test_a_word_that_is_no_choice(self):
        for way in ((("is", 3),), (ASK, ASK), (("", None),), (("asks", "lef"),), HAGGLE + (("no", None),)):
            self.assertIsNone(place_of(TRADE, way), way)
            self.assertIsNone(place_of(TRADE, way + (("is", 3),)), way)

    def test_a_value_of_another_kind(self):
        for odd in ODD_THINGS + ("mid", ("lef",), ["lef"]):
            self.assertIsNone(place_of(TRADE, (("ask", odd),)), shown(odd))
        for odd in (10, -1, True, "7", None, [7]):
            self.assertIsNone(place_of(TRADE, (ASK, ("is", odd))), odd)
        for odd in (("rig", "lef", "rig"), ["rig"], ("rig", None)):
            self.assertIsNone(place_of(TRADE, HAGGLE + (("yes", None), ("go", odd))), odd)

    def test_a_word_behind_an_end(self):
        for word in (ASK, ("go", ()), ("end", None)):
            self.assertIsNone(place_of(TRADE, BOUGHT + (word,)))
            self.assertIsNone(place_of((2, (END,)), (word,)))

    def test_a_way_round_and_round(self):
        self.assertEqual(place_of(TRADE, (ASK,) + (("is", 1), ("bid", 1)) * 2000), 1)

    def test_the_kind_tells_not_the_word_alone(self):
        grammar = (2, (("say", 0, 1, (("a", SIDE, 1), ("b", DIGIT, 2))), END, END))
        self.assertEqual(place_of(grammar, (("a", "lef"),)), 1)
        self.assertEqual(place_of(grammar, (("b", 4),)), 2)
        self.assertIsNone(place_of(grammar, (("a", 4),)))
        self.assertIsNone(place_of(grammar, (("b", "lef"),)))


class DoneOn(GrammarCase):
    def test_each_hand_in_order(self):
        self.assertEqual(done_on(TRADE, 0, BOUGHT), (
            ("says", 1, "ask", "lef"), ("hears", 1, "is", 7), ("says", 1, "bid", 5), ("hears", 1, "is", 6),
            ("says", 1, "yes", None), ("says", 2, "go", ("rig", "lef")),
        ))
        self.assertEqual(done_on(TRADE, 1, BOUGHT), (
            ("hears", 0, "ask", "lef"), ("says", 0, "is", 7), ("hears", 0, "bid", 5), ("says", 0, "is", 6),
            ("hears", 0, "yes", None),
        ))
        self.assertEqual(done_on(TRADE, 2, BOUGHT), (("hears", 0, "go", ("rig", "lef")),))

    def test_the_empty_way(self):
        for hand in range(3):
            self.assertEqual(done_on(TRADE, hand, ()), ())

    def test_ways_to_the_middle(self):
        self.assertEqual(done_on(TRADE, 2, HAGGLE), ())
        for hand in range(3):
            whole = done_on(TRADE, hand, BOUGHT)
            for length in range(len(BOUGHT) + 1):
                told = done_on(TRADE, hand, BOUGHT[:length])
                self.assertEqual(told, whole[:len(told)])

    def test_each_word_is_said_once_and_heard_once(self):
        for length in range(len(BOUGHT) + 1):
            counts = [len(done_on(TRADE, hand, BOUGHT[:length])) for hand in range(3)]
            self.assertEqual(sum(counts), 2 * length)


class Renamed(GrammarCase):
    def test_both_left_as_they_are(self):
        self.assertEqual(renamed(TRADE, (0, 1, 2), (0, 1, 2, 3, 4)), TRADE)
        self.assertEqual(renamed((2, (END,)), (0, 1), (0,)), (2, (END,)))

    def test_hands_exchanged(self):
        self.assertEqual(renamed(TRADE, (1, 2, 0), (0, 1, 2, 3, 4)), (3, (
            ("say", 1, 2, (("ask", SIDE, 1),)),
            ("say", 2, 1, (("is", DIGIT, 2), ("no", NONE, 4))),
            ("say", 1, 2, (("bid", DIGIT, 1), ("bye", NONE, 4), ("yes", NONE, 3))),
            ("say", 1, 0, (("go", ("row", SIDE, 2), 4),)),
            END,
        )))

    def test_places_exchanged(self):
        self.assertEqual(renamed(TRADE, (0, 1, 2), (0, 2, 4, 1, 3)), (3, (
            ("say", 0, 1, (("ask", SIDE, 2),)),
            ("say", 0, 2, (("go", ("row", SIDE, 2), 3),)),
            ("say", 1, 0, (("is", DIGIT, 4), ("no", NONE, 3))),
            END,
            ("say", 0, 1, (("bid", DIGIT, 2), ("bye", NONE, 3), ("yes", NONE, 1))),
        )))

    def test_ways_stay_and_doings_are_renamed(self):
        for hands in permutations(range(3)):
            for rest in permutations(range(1, 5)):
                numbers = (0,) + rest
                told = renamed(TRADE, hands, numbers)
                self.assertIs(is_grammar(told), True)
                self.assertEqual(place_of(told, BOUGHT), numbers[4])
                for hand in range(3):
                    known = [(do, hands[far], word, value) for do, far, word, value in done_on(TRADE, hand, BOUGHT)]
                    self.assertEqual(done_on(told, hands[hand], BOUGHT), tuple(known))

    def test_there_and_back(self):
        there = renamed(TRADE, (1, 2, 0), (0, 2, 4, 1, 3))
        self.assertEqual(renamed(there, (2, 0, 1), (0, 3, 1, 4, 2)), TRADE)


class BeyondTheBounds(GrammarCase):
    def test_more_places(self):
        grammar = chain(90)
        self.assertIs(is_grammar(grammar), False)
        way = (("on", None),) * 89
        self.assertEqual(place_of(grammar, way), 89)
        self.assertIsNone(place_of(grammar, way + (("on", None),)))
        self.assertEqual(done_on(grammar, 1, way), (("hears", 0, "on", None),) * 89)
        numbers = (0,) + tuple(range(89, 0, -1))
        told = renamed(grammar, (1, 0), numbers)
        self.assertEqual(place_of(told, way), 1)
        self.assertEqual(renamed(told, (1, 0), numbers), grammar)

    def test_more_choices(self):
        grammar = grammar_of(tuple((word, DIGIT, 1) for word in "abcdefgh"))
        self.assertIs(is_grammar(grammar), False)
        self.assertEqual(place_of(grammar, (("h", 3),)), 1)
        self.assertIsNone(place_of(grammar, (("i", 3),)))
        self.assertEqual(done_on(grammar, 0, (("g", 3),)), (("says", 1, "g", 3),))
        self.assertEqual(renamed(renamed(grammar, (1, 0), (0, 1)), (1, 0), (0, 1)), grammar)

    def test_more_hands_longer_words_and_greater_kinds(self):
        grammar = (6, (("say", 5, 0, (("longer", ("row", NONE, 12), 1),)), END))
        way = (("longer", (None,) * 12),)
        self.assertIs(is_grammar(grammar), False)
        self.assertEqual(place_of(grammar, way), 1)
        self.assertEqual(done_on(grammar, 5, way), (("says", 0, "longer", (None,) * 12),))
        told = renamed(grammar, (5, 1, 2, 3, 4, 0), (0, 1))
        self.assertEqual(told, (6, (("say", 0, 5, (("longer", ("row", NONE, 12), 1),)), END)))


class AllThatIsTold(GrammarCase):
    def test_tuples_and_no_lists(self):
        for hand in range(3):
            self.assertTrue(is_plain(done_on(TRADE, hand, BOUGHT)))
        self.assertTrue(is_plain(renamed(TRADE, (2, 1, 0), (0, 4, 3, 2, 1))))
        self.assertIs(type(place_of(TRADE, BOUGHT)), int)

    def test_the_same_is_told_again(self):
        self.assertEqual(place_of(TRADE, BOUGHT), place_of(TRADE, BOUGHT))
        self.assertEqual(done_on(TRADE, 0, BOUGHT), done_on(TRADE, 0, BOUGHT))
        first = renamed(TRADE, (2, 1, 0), (0, 4, 3, 2, 1))
        self.assertEqual(renamed(TRADE, (2, 1, 0), (0, 4, 3, 2, 1)), first)

    def test_what_is_handed_in_is_not_changed(self):
        thing = [2, [["say", 0, 1, [["b", ["none"], 1], ["a", ["none"], 1]]], ["end"]]]
        kept = copy.deepcopy(thing)
        is_grammar(thing)
        is_grammar((2, (thing, END)))
        is_grammar(grammar_of((("a", thing, 1), thing)))
        place_of(TRADE, (("ask", thing),))
        place_of(TRADE, (ASK, ("is", thing)))
        self.assertEqual(thing, kept)


if __name__ == "__main__":
    unittest.main()
