"""Points 3.1 to 3.3, and 0.2 (b), (i) and 0.3 of parts."""

import copy
import unittest

from helper import (
    DIGIT, END, MARKET, NONE, SIDE, TRADE, Dice, chain, fair_grammars, is_even, is_plain, is_turn,
    made_grammars, made_numbers, part_by_sets, reached, say,
)
from parleyturn.errors import NoMove, NoPart, TalkError
from parleyturn.grammars import done_on, is_grammar, place_of, renamed
from parleyturn.parts import is_fair, part_of, reason


def renamed_part(part, hands):
    return tuple(END if state == END else (state[0], hands[state[1]], state[2]) for state in part)


class PartCase(unittest.TestCase):
    def has_part(self, grammar, hand, *states):
        self.assertEqual(part_of(grammar, hand), states)
        self.assertIsNone(reason(grammar, hand))

    def has_none(self, grammar, hand, sort=None):
        told = reason(grammar, hand)
        self.is_reason(grammar, hand, told)
        with self.assertRaises(NoPart):
            part_of(grammar, hand)
        if sort is not None:
            self.assertEqual(told[0], sort)
        return told

    def is_reason(self, grammar, hand, told):
        self.assertTrue(is_plain(told))
        self.assertIsInstance(told, tuple, (grammar, hand))
        sort, way, other = told
        self.assertIn(sort, ("unlike", "never"))
        places = [place_of(grammar, way), place_of(grammar, other)]
        self.assertNotIn(None, places)
        self.assertEqual(done_on(grammar, hand, way), done_on(grammar, hand, other))
        turns = [is_turn(grammar[1][number], hand) for number in places]
        if sort == "unlike":
            self.assertEqual(turns, [True, True])
            self.assertFalse(is_even(grammar, hand, places), (grammar, hand, told))
        else:
            self.assertEqual(turns, [False, True])
            behind = reached(grammar, places[:1])
            self.assertFalse(any(is_turn(grammar[1][number], hand) for number in behind), (grammar, hand, told))


class PartOf(PartCase):
    def test_two_hands(self):
        grammar = (2, (
            say(0, 1, ("ask", DIGIT, 1)), say(1, 0, ("no", 2), ("yes", SIDE, 0)), END,
        ))
        answers = (("no", NONE, 2), ("yes", SIDE, 0))
        self.has_part(grammar, 0, ("says", 1, (("ask", DIGIT, 1),)), ("hears", 1, answers), END)
        self.has_part(grammar, 1, ("hears", 0, (("ask", DIGIT, 1),)), ("says", 0, answers), END)

    def test_three_hands(self):
        self.has_part(
            MARKET, 0,
            ("says", 1, (("ask", SIDE, 1),)),
            ("hears", 1, (("is", DIGIT, 2), ("no", NONE, 3))),
            ("says", 1, (("bid", DIGIT, 1), ("bye", NONE, 3), ("yes", NONE, 4))),
            ("says", 2, (("off", NONE, 5),)),
            ("says", 2, (("go", ("row", SIDE, 2), 5),)),
            END,
        )
        self.has_part(
            MARKET, 1,
            ("hears", 0, (("ask", SIDE, 1),)),
            ("says", 0, (("is", DIGIT, 2), ("no", NONE, 3))),
            ("hears", 0, (("bid", DIGIT, 1), ("bye", NONE, 3), ("yes", NONE, 4))),
            END,
            END,
        )
        self.has_part(MARKET, 2, ("hears", 0, (("go", ("row", SIDE, 2), 1), ("off", NONE, 1))), END)

    def test_four_hands(self):
        grammar = (4, (
            say(3, 0, ("l", 1), ("r", 2)), say(3, 1, ("l", 3)), say(3, 1, ("r", 4)),
            say(1, 2, ("x", DIGIT, 5)), say(1, 2, ("y", DIGIT, 5)), say(2, 0, ("on", 0), ("so", 6)),
            say(0, 1, ("so", 7)), say(0, 3, ("so", 8)), END,
        ))
        # Hands 1 and 3 can't know whether hand 2 said "on" or "so": they have none.
        self.has_none(grammar, 1, "unlike")
        self.has_none(grammar, 3, "unlike")
        self.has_part(
            grammar, 2,
            ("hears", 1, (("x", DIGIT, 1), ("y", DIGIT, 1))),
            ("says", 0, (("on", NONE, 0), ("so", NONE, 2))),
            END,
        )
        self.has_part(
            grammar, 0,
            ("hears", 3, (("l", NONE, 1), ("r", NONE, 2))),
            ("hears", 2, (("on", NONE, 0), ("so", NONE, 3))),
            ("hears", 2, (("on", NONE, 0), ("so", NONE, 3))),
            ("says", 1, (("so", NONE, 4),)),
            ("says", 3, (("so", NONE, 5),)),
            END,
        )

    def test_a_hand_that_has_ended_at_once(self):
        for hands in (2, 3, 4):
            for hand in range(hands):
                self.has_part((hands, (END,)), hand, END)
        self.has_part((3, chain(5)[1]), 2, END)
        self.has_part((4, MARKET[1]), 3, END)
        # Round and round without it.
        self.has_part((3, (say(0, 1, ("a", 0)),)), 2, END)
        # Its only turn is at a place to which one doesn't come.
        self.has_part((3, (say(0, 1, ("a", 2)), say(0, 2, ("b", 2)), END)), 2, END)

    def test_several_places_without_the_hand(self):
        grammar = (3, (
            say(0, 1, ("a", 1)), say(1, 0, ("b", 2)), say(0, 1, ("c", 3)), say(0, 2, ("d", DIGIT, 4)),
            say(1, 0, ("e", 5)), say(0, 1, ("f", 6)), say(2, 1, ("g", 7)), END,
        ))
        self.has_part(grammar, 2, ("hears", 0, (("d", DIGIT, 1),)), ("says", 1, (("g", NONE, 2),)), END)

    def test_several_places_with_branches_and_back(self):
        grammar = (3, (
            say(0, 1, ("a", 1), ("b", 2)), say(1, 0, ("a", 0), ("b", 3)), say(1, 0, ("c", 2), ("d", 4), ("e", 1)),
            say(0, 2, ("x", 5)), say(0, 2, ("y", 0)), END,
        ))
        self.has_part(grammar, 2, ("hears", 0, (("x", NONE, 1), ("y", NONE, 0))), END)

    def test_several_turns_in_which_it_says_the_same(self):
        choices = (("m", DIGIT, 3), ("n", NONE, 3))
        grammar = (3, (say(0, 1, ("a", 1), ("b", 2)), say(2, 0, *choices), say(2, 0, *choices), END))
        self.has_part(grammar, 2, ("says", 0, (("m", DIGIT, 1), ("n", NONE, 1))), END)

    def test_a_word_leads_on_from_all_turns(self):
        grammar = (3, (
            say(0, 1, ("a", 1), ("b", 2)), say(2, 0, ("m", 3)), say(2, 0, ("m", 4)),
            say(0, 2, ("p", 5)), say(0, 2, ("q", DIGIT, 5)), END,
        ))
        self.has_part(grammar, 2, ("says", 0, (("m", NONE, 1),)), ("hears", 0, (("p", NONE, 2), ("q", DIGIT, 2))), END)

    def test_several_turns_with_unlike_words_that_are_heard(self):
        grammar = (3, (
            say(0, 1, ("a", 1), ("b", 2)), say(1, 2, ("m", 3), ("z", 4)), say(1, 2, ("c", SIDE, 3), ("n", DIGIT, 5)),
            END, END, END,
        ))
        self.has_part(
            grammar, 2, ("hears", 1, (("c", SIDE, 1), ("m", NONE, 1), ("n", DIGIT, 2), ("z", NONE, 3))), END, END, END,
        )

    def test_a_word_in_several_turns_with_the_same_kind(self):
        grammar = (3, (
            say(0, 1, ("a", 1), ("b", 2)), say(1, 2, ("m", DIGIT, 3), ("z", 0)), say(1, 2, ("c", 3), ("m", DIGIT, 4)),
            say(2, 1, ("x", 5)), say(2, 1, ("x", 5)), END,
        ))
        self.has_part(
            grammar, 2,
            ("hears", 1, (("c", NONE, 1), ("m", DIGIT, 2), ("z", NONE, 0))),
            ("says", 1, (("x", NONE, 3),)),
            ("says", 1, (("x", NONE, 3),)),
            END,
        )

    def test_a_word_in_several_turns_with_unlike_kinds(self):
        for kind in (DIGIT, ("number", 0, 8), SIDE, ("row", NONE, 1)):
            grammar = (3, (
                say(0, 1, ("a", 1), ("b", 2)), say(1, 2, ("l", 3), ("m", kind, 3)), say(1, 2, ("m", NONE, 3)), END,
            ))
            self.has_none(grammar, 2, "unlike")
            self.has_part(grammar, 1, *part_by_sets(grammar, 1))

    def test_places_that_come_back_to_themselves(self):
        self.has_part((2, (say(0, 1, ("a", 0)),)), 1, ("hears", 0, (("a", NONE, 0),)))
        grammar = (3, (say(0, 1, ("a", 0), ("b", 1)), say(0, 2, ("c", 1), ("d", 0), ("e", 2)), END))
        self.has_part(
            grammar, 2, ("hears", 0, (("c", NONE, 1), ("d", NONE, 0), ("e", NONE, 2))),
            ("hears", 0, (("c", NONE, 1), ("d", NONE, 0), ("e", NONE, 2))), END,
        )

    def test_none_of_its_turns_comes_any_more(self):
        self.has_none(TRADE, 2, "never")
        # An end, round and round at one place, and round and round at two.
        self.has_none((3, (say(0, 1, ("a", 1), ("b", 2)), say(0, 2, ("c", 2)), END)), 2, "never")
        self.has_none((3, (say(0, 1, ("a", 1), ("b", 2)), say(0, 2, ("c", 1)), say(0, 1, ("d", 2)))), 2, "never")
        self.has_none((3, (
            say(0, 1, ("a", 1), ("b", 2)), say(0, 2, ("c", 1)), say(0, 1, ("d", 3)), say(0, 1, ("d", 2)),
        )), 2, "never")
        # Round and round, but one can still come out.
        self.has_part((3, (
            say(0, 1, ("a", 1), ("b", 2)), say(0, 2, ("c", 1)), say(0, 1, ("d", 2), ("e", 1)),
        )), 2, ("hears", 0, (("c", NONE, 1),)), ("hears", 0, (("c", NONE, 1),)))

    def test_never_behind_some_words(self):
        grammar = (3, (
            say(0, 2, ("a", 1), ("b", 3)), say(0, 1, ("c", 2), ("d", 5)), say(0, 2, ("e", 5)),
            say(0, 1, ("c", 4), ("d", 4)), say(0, 2, ("e", 5)), END,
        ))
        told = self.has_none(grammar, 2, "never")
        self.assertEqual(done_on(grammar, 2, told[1]), (("hears", 0, "a", None),))

    def test_a_turn_from_which_none_comes_any_more_is_a_turn(self):
        grammar = (3, (say(0, 1, ("a", 1), ("b", 2)), say(0, 2, ("c", 3)), say(0, 2, ("c", 3)), END))
        self.has_part(grammar, 2, ("hears", 0, (("c", NONE, 1),)), END)

    def test_which_places_do_not_matter(self):
        # Unlike turns that lie in no set with one another: one doesn't come there, or the hand has chosen between them.
        apart = (say(0, 1, ("a", 2)), say(0, 1, ("a", 3), ("b", 4)), END, say(0, 2, ("a", 2)), say(2, 0, ("a", 2)))
        self.has_part((3, apart), 2, END)
        grammar = (3, (say(2, 0, ("l", 1), ("r", 2)), say(0, 2, ("a", 3)), say(2, 1, ("b", 3)), END))
        self.has_part(
            grammar, 2,
            ("says", 0, (("l", NONE, 1), ("r", NONE, 2))),
            ("hears", 0, (("a", NONE, 3),)),
            ("says", 1, (("b", NONE, 3),)),
            END,
        )

    def test_one_hand_can_have_a_part_where_another_has_none(self):
        for hand in (0, 1):
            self.has_part(TRADE, hand, *part_by_sets(TRADE, hand))
        self.assertIs(is_fair(TRADE), False)

    def test_no_part_is_a_refusal_of_its_own(self):
        for wider in (NoPart, TalkError, ValueError):
            with self.assertRaises(wider):
                part_of(TRADE, 2)
        try:
            part_of(TRADE, 2)
        except NoMove:
            self.fail("NoMove has taken it")
        except TalkError as error:
            self.assertIs(type(error), NoPart)


class OrderOfStates(PartCase):
    def test_set_by_set_word_by_word(self):
        # Places are numbered against the order in which the hand comes to them.
        grammar = (2, (
            say(0, 1, ("a", 6), ("b", 5)), END, say(0, 1, ("f", 1)), say(0, 1, ("e", 1)), say(0, 1, ("d", 1)),
            say(0, 1, ("a", 3), ("b", 2)), say(0, 1, ("a", 5), ("c", 4)),
        ))
        for hand, role in ((0, "says"), (1, "hears")):
            self.has_part(
                grammar, hand,
                (role, 1 - hand, (("a", NONE, 1), ("b", NONE, 2))),
                (role, 1 - hand, (("a", NONE, 2), ("c", NONE, 3))),
                (role, 1 - hand, (("a", NONE, 4), ("b", NONE, 5))),
                (role, 1 - hand, (("d", NONE, 6),)),
                (role, 1 - hand, (("e", NONE, 6),)),
                (role, 1 - hand, (("f", NONE, 6),)),
                END,
            )

    def test_words_rise_over_all_turns_of_a_set(self):
        grammar = (3, (
            say(0, 1, ("a", 1), ("b", 2)), say(1, 2, ("b", 3), ("d", 4)), say(1, 2, ("a", 5), ("aa", 6), ("c", 7)),
            END, END, END, END, END,
        ))
        words = ("a", "aa", "b", "c", "d")
        choices = tuple((word, NONE, number) for number, word in enumerate(words, start=1))
        self.has_part(grammar, 2, ("hears", 1, choices), *[END] * 5)

    def test_a_state_for_each_set(self):
        # Two ends are two sets, and so are two places that are alike.
        grammar = (2, (say(0, 1, ("a", 1), ("b", 2)), say(1, 0, ("c", 3)), say(1, 0, ("c", 4)), END, END))
        for hand, roles in ((0, ("says", "hears")), (1, ("hears", "says"))):
            self.has_part(
                grammar, hand, (roles[0], 1 - hand, (("a", NONE, 1), ("b", NONE, 2))),
                (roles[1], 1 - hand, (("c", NONE, 3),)), (roles[1], 1 - hand, (("c", NONE, 4),)), END, END,
            )

    def test_sets_with_the_same_turns_and_other_places_are_two(self):
        grammar = (3, (say(0, 2, ("a", 1), ("b", 2)), say(0, 1, ("c", 2)), say(2, 0, ("d", 2))))
        self.has_part(
            grammar, 2, ("hears", 0, (("a", NONE, 1), ("b", NONE, 2))), ("says", 0, (("d", NONE, 2),)),
            ("says", 0, (("d", NONE, 2),)),
        )

    def test_a_set_to_which_one_comes_again_has_its_number(self):
        grammar = (3, (say(0, 2, ("a", 1), ("b", 2), ("c", 0)), say(0, 1, ("x", 2)), say(0, 1, ("y", 1), ("z", 0))))
        # From place 1 and from place 2 one comes to all places, so it is one set with that of place 0.
        self.has_part(grammar, 2, *[("hears", 0, (("a", NONE, 1), ("b", NONE, 1), ("c", NONE, 0)))] * 2)


class Reason(PartCase):
    def test_says_here_and_hears_there(self):
        for places in ((say(2, 0, ("m", 3)), say(0, 2, ("m", 3))), (say(0, 2, ("m", 3)), say(2, 0, ("m", 3)))):
            told = self.has_none((3, (say(0, 1, ("a", 1), ("b", 2)),) + places + (END,)), 2, "unlike")
            self.assertEqual({told[1], told[2]}, {(("a", None),), (("b", None),)})

    def test_says_to_unlike_hands(self):
        grammar = (4, (say(0, 1, ("a", 1), ("b", 2)), say(2, 0, ("m", 3)), say(2, 1, ("m", 3)), END))
        self.has_none(grammar, 2, "unlike")

    def test_hears_from_unlike_hands(self):
        grammar = (3, (say(0, 1, ("a", 1), ("b", 2)), say(0, 2, ("m", 3)), say(1, 2, ("m", 3)), END))
        self.has_none(grammar, 2, "unlike")
        # Nor do unlike words help it.
        grammar = (3, (say(0, 1, ("a", 1), ("b", 2)), say(0, 2, ("m", 3)), say(1, 2, ("n", 3)), END))
        self.has_none(grammar, 2, "unlike")

    def test_says_unlike_words(self):
        here = (("m", 3), ("n", 3))
        for there in ((("m", 3),), (("n", 3),), (("l", 3),), (("m", 3), ("o", 3)), (("l", 3),) + here):
            for one, other in ((here, there), (there, here)):
                grammar = (3, (say(0, 1, ("a", 1), ("b", 2)), say(2, 0, *one), say(2, 0, *other), END))
                self.has_none(grammar, 2, "unlike")

    def test_says_a_word_of_unlike_kinds(self):
        here = (("m", DIGIT, 3), ("n", SIDE, 3))
        for there in ((("m", ("number", 0, 8), 3), ("n", SIDE, 3)), (("m", DIGIT, 3), ("n", NONE, 3))):
            for one, other in ((here, there), (there, here)):
                grammar = (3, (say(0, 1, ("a", 1), ("b", 2)), say(2, 0, *one), say(2, 0, *other), END))
                self.has_none(grammar, 2, "unlike")

    def test_hears_a_word_of_unlike_kinds_in_turns_of_which_none_is_the_first(self):
        grammar = (3, (
            say(0, 1, ("a", 1), ("b", 2), ("c", 3)), say(1, 2, ("l", 4)), say(1, 2, ("l", 4), ("m", DIGIT, 4)),
            say(1, 2, ("m", SIDE, 4)), END,
        ))
        told = self.has_none(grammar, 2, "unlike")
        self.assertEqual({told[1], told[2]}, {(("b", None),), (("c", None),)})

    def test_kinds_with_the_same_values_that_are_written_unlike(self):
        turns = [say(1, 2, ("m", ("row", inner, 0), 3)) for inner in (SIDE, NONE)]
        self.has_none((3, (say(0, 1, ("a", 1), ("b", 2)), turns[0], turns[1], END)), 2, "unlike")

    def test_behind_words_that_carry_values(self):
        carried = ("pair", ("number", 5, 9), ("row", SIDE, 2))
        grammar = (3, (
            say(1, 0, ("a", DIGIT, 1), ("b", SIDE, 2)), say(1, 2, ("on", carried, 3)), say(1, 2, ("on", carried, 4)),
            say(2, 1, ("x", ("number", 7, 9), 5)), say(2, 1, ("x", ("number", 7, 9), 6)),
            say(2, 0, ("m", 7)), say(0, 2, ("m", 7)), END,
        ))
        told = self.has_none(grammar, 2, "unlike")
        self.assertEqual(len(done_on(grammar, 2, told[1])), 2)

    def test_behind_several_rounds(self):
        # Which of both it is shows only at the fourth round.
        first = [say(0, 1, ("a", 1), ("b", 5))]
        left = [say(0, 2, ("m", number + 1)) for number in range(1, 4)] + [say(0, 2, ("m", 9))]
        right = [say(0, 2, ("m", number + 1)) for number in range(5, 8)] + [say(1, 2, ("m", 9))]
        grammar = (3, tuple(first + left + right + [END]))
        told = self.has_none(grammar, 2, "unlike")
        self.assertEqual(len(done_on(grammar, 2, told[1])), 3)

    def test_only_the_words_both_have_lead_both_on(self):
        # "m" alone is heard in both turns; behind "l" it says, behind "n" it hears, and knows which it is.
        places = (
            say(0, 1, ("a", 1), ("b", 2)), say(1, 2, ("l", 3), ("m", 5)), say(1, 2, ("m", 5), ("n", 4)),
            say(2, 1, ("x", 5)), say(1, 2, ("x", 5)), END,
        )
        self.has_part((3, places), 2, *part_by_sets((3, places), 2))
        self.assertIsNotNone(part_by_sets((3, places), 2))
        mixed = (places[0], say(1, 2, ("l", 3), ("m", 3)), say(1, 2, ("m", 4), ("n", 4))) + places[3:]
        told = self.has_none((3, mixed), 2, "unlike")
        self.assertEqual(done_on((3, mixed), 2, told[1]), (("hears", 1, "m", None),))

    def test_is_fair(self):
        for grammar in (MARKET, (2, (END,)), chain(3), (3, (say(0, 1, ("a", 0)),))):
            self.assertIs(is_fair(grammar), True)
        for hand in range(3):
            hands = ((2, 1, 0), (1, 2, 0), (0, 1, 2))[hand]
            grammar = renamed(TRADE, hands, (0, 1, 2, 3, 4))
            self.assertIs(is_fair(grammar), False)
            self.has_none(grammar, hands[2], "never")

    def test_two_hands_are_always_fair(self):
        for grammar in made_grammars():
            if grammar[0] == 2:
                self.assertIs(is_fair(grammar), True)


class ManyGrammars(PartCase):
    def test_a_part_as_told_or_a_reason_never_both(self):
        found = {"part": 0, "unlike": 0, "never": 0}
        for grammar in made_grammars():
            parts = [part_by_sets(grammar, hand) for hand in range(grammar[0])]
            for hand, part in enumerate(parts):
                told = reason(grammar, hand)
                if part is None:
                    self.has_none(grammar, hand)
                else:
                    self.has_part(grammar, hand, *part)
                found["part" if told is None else told[0]] += 1
            self.assertIs(is_fair(grammar), None not in parts)
        # All sorts were among them.
        self.assertGreater(min(found.values()), 100)

    def test_other_numbers_change_the_numbers_alone(self):
        dice = Dice(3)
        for grammar in made_grammars():
            hands = made_numbers(dice, grammar[0])
            told = renamed(grammar, hands, made_numbers(dice, len(grammar[1]), fixed=1))
            self.assertIs(is_fair(told), is_fair(grammar))
            for hand in range(grammar[0]):
                self.assertEqual(reason(told, hands[hand]), reason(grammar, hand))
                if reason(grammar, hand) is None:
                    self.assertEqual(part_of(told, hands[hand]), renamed_part(part_of(grammar, hand), hands))

    def test_choices_rise_and_lead_to_states(self):
        for grammar in fair_grammars():
            for hand in range(grammar[0]):
                part = part_of(grammar, hand)
                led = [choice[2] for state in part if state != END for choice in state[2]]
                self.assertEqual(set(led) | {0}, set(range(len(part))))
                for state in part:
                    if state != END:
                        words = [choice[0] for choice in state[2]]
                        self.assertEqual(words, sorted(set(words)))


class BeyondTheBounds(PartCase):
    def test_more_places(self):
        for count in (61, 400, 3000):
            grammar = chain(count, hands=3)
            says = tuple(("says", 1, (("on", NONE, number + 1),)) for number in range(count - 1))
            self.has_part(grammar, 0, *says, END)
            self.has_part(grammar, 2, END)
            self.assertIs(is_fair(grammar), True)

    def test_a_fault_behind_more_places(self):
        grammar = chain(300, hands=3)
        grammar = (3, grammar[1][:-1] + (say(0, 1, ("a", 300), ("b", 301)), say(0, 2, ("c", 301)), END))
        told = self.has_none(grammar, 2, "never")
        self.assertGreaterEqual(len(told[1]), 299)
        self.assertIs(is_fair(grammar), False)

    def test_more_choices(self):
        words = [one + other for one in "abcdefgh" for other in "abcdefgh"]
        choices = [(word, DIGIT, 1 + spot % 2) for spot, word in enumerate(words)]
        grammar = (3, (say(0, 1, *choices), say(0, 2, *choices), say(0, 2, *choices)))
        self.assertIs(is_grammar(grammar), False)
        # Behind each word it is one of the two places, which are alike, but are two sets.
        told = [("hears", 0, tuple((word, DIGIT, 1 + spot % 2) for spot, word in enumerate(words)))] * 3
        self.has_part(grammar, 2, *told)
        self.assertIs(is_fair(grammar), True)

    def test_more_hands_longer_words_and_greater_kinds(self):
        kind = ("row", ("number", -3000000, 3000000), 30)
        grammar = (6, (say(5, 4, ("longer", kind, 1), ("other", 1)), say(4, 3, ("again", kind, 2)), END))
        self.has_part(grammar, 4, *(
            ("hears", 5, (("longer", kind, 1), ("other", NONE, 1))), ("says", 3, (("again", kind, 2),)), END,
        ))
        self.has_part(grammar, 0, END)
        self.assertIs(is_fair(grammar), True)
        self.has_none((6, (say(5, 4, ("longer", kind, 1), ("other", 2)),) + grammar[1][1:]), 3, "never")

    def test_far_more_sets_than_places(self):
        # Hand 0 hears letters, and can't know at which of them hand 1 began to count: there are over 2 ** 50 sets.
        counted = tuple(say(1, 0, ("a", number + 4), ("b", number + 4)) for number in range(50))
        first = (say(1, 2, ("go", 2), ("no", 1)), say(1, 0, ("a", 0), ("b", 0)), say(1, 0, ("a", 3)))
        grammar = (3, first + counted + (say(1, 0, ("c", 0)),))
        self.assertIsNone(reason(grammar, 0))
        self.assertIs(is_fair(grammar), True)
        told = self.has_none((3, first + counted + (say(1, 0, ("a", SIDE, 0)),)), 0, "unlike")
        self.assertGreater(len(told[1]), 50)


class AllThatIsTold(PartCase):
    def test_tuples_and_no_lists(self):
        for grammar in made_grammars()[::5]:
            for hand in range(grammar[0]):
                self.assertTrue(is_plain(reason(grammar, hand)))
                if reason(grammar, hand) is None:
                    self.assertTrue(is_plain(part_of(grammar, hand)))
            self.assertIs(type(is_fair(grammar)), bool)

    def test_the_same_is_told_again_and_nothing_is_changed(self):
        for grammar in made_grammars()[::5]:
            kept = copy.deepcopy(grammar)
            for hand in range(grammar[0]):
                self.assertEqual(reason(grammar, hand), reason(grammar, hand))
                if reason(grammar, hand) is None:
                    self.assertEqual(part_of(grammar, hand), part_of(grammar, hand))
            self.assertEqual(is_fair(grammar), is_fair(grammar))
            self.assertEqual(grammar, kept)

    def test_equal_grammars_have_equal_parts(self):
        self.assertEqual(part_of(copy.deepcopy(MARKET), 2), part_of(MARKET, 2))
        self.assertEqual(reason(copy.deepcopy(TRADE), 2), reason(TRADE, 2))


if __name__ == "__main__":
    unittest.main()
