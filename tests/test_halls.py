"""Points 4.1 and 4.2, and 0.2 (c), (i) and 0.3 of halls."""

import copy
import unittest

from helper import (
    DIGIT, END, MARKET, ODD_THINGS, SIDE, TRADE, Dice, Written, all_told, chain, do, fair_grammars, is_plain,
    made_grammars, made_move, made_numbers, made_way, moves_on, parts_of, say, values_of,
)
from parleyturn.errors import NoMove, NoPart, TalkError
from parleyturn.grammars import is_grammar, place_of, renamed
from parleyturn.halls import Hall
from parleyturn.parts import is_fair, part_of

# Hand 0 counts for hand 1, which hears it when it likes, until it is told to stop.
STREAM = (2, (say(0, 1, ("n", DIGIT, 0), ("z", 1)), END))

# Hands 0 and 1 each say something to hand 2, and both choose what to say to hand 3.
POST = (4, (
    say(0, 2, ("a", DIGIT, 1)), say(1, 2, ("b", DIGIT, 2)),
    say(0, 3, ("x", 3), ("y", 3)), say(1, 3, ("x", 4), ("y", 4)), END,
))

NO_HANDS = (-1, -2, -100, -10 ** 5000, 10, 10 ** 9, 10 ** 5000)


class HallCase(unittest.TestCase):
    def is_refused(self, hall, hands, method, *given):
        before = all_told(hall, hands)
        with self.assertRaises(NoMove) as taken:
            getattr(hall, method)(*given)
        self.assertIs(type(taken.exception), NoMove)
        self.assertIsInstance(taken.exception, TalkError)
        self.assertIsInstance(taken.exception, ValueError)
        self.assertEqual(all_told(hall, hands), before)


class Talks(HallCase):
    def test_at_first(self):
        hall = Hall(MARKET)
        for one in range(3):
            self.assertEqual(hall.state(one), 0)
            self.assertEqual(hall.done(one), ())
            for other in range(3):
                self.assertEqual(hall.under_way(one, other), ())
        self.assertEqual(hall.can(), (("say", 0, "ask"),))
        self.assertIs(hall.is_over(), False)

    def test_a_whole_talk(self):
        hall = Hall(MARKET)
        self.assertIsNone(hall.say(0, "ask", "lef"))
        self.assertEqual(hall.state(0), 1)
        self.assertEqual(hall.under_way(0, 1), (("ask", "lef"),))
        self.assertEqual(hall.can(), (("hear", 1),))
        self.assertEqual(hall.hear(1), (0, "ask", "lef"))
        self.assertEqual(hall.under_way(0, 1), ())
        self.assertEqual(hall.can(), (("say", 1, "is"), ("say", 1, "no")))
        self.assertIsNone(hall.say(1, "is", 7))
        self.assertEqual(hall.hear(0), (1, "is", 7))
        self.assertEqual(hall.can(), (("say", 0, "bid"), ("say", 0, "bye"), ("say", 0, "yes")))
        self.assertIsNone(hall.say(0, "yes", None))
        self.assertIsNone(hall.say(0, "go", ("rig", "lef")))
        self.assertEqual([hall.state(hand) for hand in range(3)], [5, 2, 0])
        self.assertEqual(hall.can(), (("hear", 1), ("hear", 2)))
        self.assertEqual(hall.hear(2), (0, "go", ("rig", "lef")))
        self.assertIs(hall.is_over(), False)
        self.assertEqual(hall.hear(1), (0, "yes", None))
        self.assertEqual([hall.state(hand) for hand in range(3)], [5, 4, 1])
        self.assertEqual(hall.can(), ())
        self.assertIs(hall.is_over(), True)
        self.assertEqual(hall.done(0), (
            ("says", 1, "ask", "lef"), ("hears", 1, "is", 7), ("says", 1, "yes", None),
            ("says", 2, "go", ("rig", "lef")),
        ))
        self.assertEqual(hall.done(1), (("hears", 0, "ask", "lef"), ("says", 0, "is", 7), ("hears", 0, "yes", None)))
        self.assertEqual(hall.done(2), (("hears", 0, "go", ("rig", "lef")),))

    def test_states_are_those_of_the_parts(self):
        hall = Hall(MARKET)
        hall.say(0, "ask", "rig")
        hall.hear(1)
        hall.say(1, "no", None)
        self.assertEqual(hall.state(1), 3)
        self.assertEqual(part_of(MARKET, 1)[3], END)
        hall.hear(0)
        self.assertEqual(hall.state(0), 3)
        hall.say(0, "off", None)
        self.assertEqual(hall.hear(2), (0, "off", None))
        self.assertIs(hall.is_over(), True)

    def test_several_letters_under_way(self):
        hall = Hall(STREAM)
        for number in (3, 1, 4, 1):
            hall.say(0, "n", number)
        self.assertEqual(hall.under_way(0, 1), (("n", 3), ("n", 1), ("n", 4), ("n", 1)))
        self.assertEqual(hall.under_way(1, 0), ())
        self.assertEqual(hall.hear(1), (0, "n", 3))
        hall.say(0, "z", None)
        self.assertEqual(hall.under_way(0, 1), (("n", 1), ("n", 4), ("n", 1), ("z", None)))
        self.assertEqual([hall.hear(1) for letter in range(4)], [(0, "n", 1), (0, "n", 4), (0, "n", 1), (0, "z", None)])
        self.assertIs(hall.is_over(), True)

    def test_hundreds_of_letters_under_way(self):
        hall = Hall(STREAM)
        sent = [number % 10 for number in range(700)]
        for number in sent:
            hall.say(0, "n", number)
        self.assertEqual(len(hall.under_way(0, 1)), 700)
        self.assertEqual([hall.hear(1)[2] for number in sent], sent)

    def test_words_from_two_hands_to_one(self):
        hall = Hall(POST)
        hall.say(1, "b", 5)
        self.assertEqual(hall.under_way(1, 2), (("b", 5),))
        # Hand 2 hears from hand 0 first, though hand 1 was quicker.
        self.is_refused(hall, 4, "hear", 2)
        hall.say(0, "a", 6)
        self.assertEqual(hall.hear(2), (0, "a", 6))
        self.assertEqual(hall.under_way(1, 2), (("b", 5),))
        self.assertEqual(hall.hear(2), (1, "b", 5))
        self.assertEqual(hall.done(2), (("hears", 0, "a", 6), ("hears", 1, "b", 5)))

    def test_letters_to_two_hands_stay_apart(self):
        hall = Hall(POST)
        hall.say(0, "a", 6)
        hall.say(0, "y", None)
        self.assertEqual(hall.under_way(0, 2), (("a", 6),))
        self.assertEqual(hall.under_way(0, 3), (("y", None),))
        self.assertEqual(hall.hear(3), (0, "y", None))
        self.assertEqual(hall.hear(2), (0, "a", 6))

    def test_letters_in_both_directions_stay_apart(self):
        grammar = (3, (
            say(0, 1, ("a", DIGIT, 1)), say(1, 2, ("b", 2)), say(2, 0, ("b", 3)), say(1, 0, ("c", DIGIT, 4)), END,
        ))
        hall = Hall(grammar)
        hall.say(0, "a", 1)
        hall.hear(1)
        hall.say(1, "b", None)
        hall.say(1, "c", 2)
        self.assertEqual(hall.under_way(1, 0), (("c", 2),))
        self.assertEqual(hall.under_way(0, 1), ())
        self.is_refused(hall, 3, "hear", 0)
        hall.hear(2)
        hall.say(2, "b", None)
        self.assertEqual([hall.hear(0), hall.hear(0)], [(2, "b", None), (1, "c", 2)])
        self.assertIs(hall.is_over(), True)

    def test_each_value_of_a_kind_can_be_said(self):
        kind = ("pair", ("number", -1, 1), ("row", SIDE, 2))
        for value in values_of(kind):
            hall = Hall((2, (say(1, 0, ("v", kind, 1)), END)))
            hall.say(1, "v", value)
            self.assertEqual(hall.hear(0), (1, "v", value))

    def test_two_halls_of_one_grammar(self):
        one = Hall(MARKET)
        other = Hall(MARKET)
        before = all_told(other, 3)
        one.say(0, "ask", "lef")
        one.hear(1)
        self.assertEqual(all_told(other, 3), before)
        other.say(0, "ask", "rig")
        self.assertEqual(one.done(0), (("says", 1, "ask", "lef"),))


class Can(HallCase):
    def test_hearing_first_then_saying_both_rising(self):
        hall = Hall(POST)
        self.assertEqual(hall.can(), (("say", 0, "a"), ("say", 1, "b")))
        hall.say(1, "b", 1)
        self.assertEqual(hall.can(), (("say", 0, "a"), ("say", 1, "x"), ("say", 1, "y")))
        hall.say(0, "a", 2)
        self.assertEqual(hall.can(), (
            ("hear", 2), ("say", 0, "x"), ("say", 0, "y"), ("say", 1, "x"), ("say", 1, "y"),
        ))
        hall.say(0, "y", None)
        self.assertEqual(hall.can(), (("hear", 2), ("hear", 3), ("say", 1, "x"), ("say", 1, "y")))
        # Hand 3 hears from hand 0 alone now, and hand 2 from hand 1.
        hall.hear(2)
        hall.hear(3)
        self.assertEqual(hall.can(), (("hear", 2), ("say", 1, "x"), ("say", 1, "y")))

    def test_a_hand_can_hear_and_one_of_less_number_can_say(self):
        grammar = (3, (say(1, 2, ("k", 1)), say(0, 1, ("b", 2), ("c", 2)), END))
        hall = Hall(grammar)
        self.assertEqual(hall.can(), (("say", 0, "b"), ("say", 0, "c"), ("say", 1, "k")))
        hall.say(1, "k", None)
        self.assertEqual(hall.can(), (("hear", 2), ("say", 0, "b"), ("say", 0, "c")))
        hall.say(0, "c", None)
        self.assertEqual(hall.can(), (("hear", 1), ("hear", 2)))

    def test_more_than_five_words(self):
        words = tuple("abcdefgh")
        hall = Hall((2, (say(1, 0, *[(word, 1) for word in words]), END)))
        self.assertEqual(hall.can(), tuple(("say", 1, word) for word in words))

    def test_what_can_be_done_is_what_is_not_refused(self):
        dice = Dice(21)
        for grammar in fair_grammars()[::6]:
            hall = Hall(grammar)
            words = sorted({choice[0] for place in grammar[1] if place != END for choice in place[3]})
            for round_number in range(12):
                can = hall.can()
                if not can:
                    break
                for hand in range(grammar[0]):
                    if ("hear", hand) not in can:
                        self.is_refused(hall, grammar[0], "hear", hand)
                    for word in words:
                        if ("say", hand, word) not in can:
                            for value in (None, 0, "lef", ()):
                                self.is_refused(hall, grammar[0], "say", hand, word, value)
                do(hall, made_move(dice, hall, [part_of(grammar, hand) for hand in range(grammar[0])]))


class IsOver(HallCase):
    def test_at_once(self):
        for hands in (2, 3, 4):
            hall = Hall((hands, (END,)))
            self.assertIs(hall.is_over(), True)
            self.assertEqual(hall.can(), ())
            for hand in range(hands):
                self.is_refused(hall, hands, "hear", hand)
                self.is_refused(hall, hands, "say", hand, "a", None)

    def test_not_with_letters_under_way(self):
        hall = Hall(chain(4))
        for letter in range(3):
            self.assertIs(hall.is_over(), False)
            hall.say(0, "on", None)
        self.assertEqual(part_of(chain(4), 0)[hall.state(0)], END)
        for letter in range(3):
            self.assertIs(hall.is_over(), False)
            hall.hear(1)
        self.assertIs(hall.is_over(), True)

    def test_not_while_a_hand_has_something_to_say(self):
        hall = Hall((4, (say(0, 1, ("a", 1)), say(2, 3, ("b", 2)), END)))
        hall.say(0, "a", None)
        hall.hear(1)
        self.assertIs(hall.is_over(), False)
        hall.say(2, "b", None)
        self.assertIs(hall.is_over(), False)
        hall.hear(3)
        self.assertIs(hall.is_over(), True)

    def test_never_where_it_goes_on_for_ever(self):
        hall = Hall((2, (say(0, 1, ("a", 0)),)))
        for round_number in range(30):
            hall.say(0, "a", None)
            self.assertIs(hall.is_over(), False)
            hall.hear(1)
            self.assertIs(hall.is_over(), False)


class Refusals(HallCase):
    def test_a_hand_that_does_not_say_now(self):
        hall = Hall(MARKET)
        self.is_refused(hall, 3, "say", 1, "is", 3)
        self.is_refused(hall, 3, "say", 2, "go", ())
        hall.say(0, "ask", "lef")
        self.is_refused(hall, 3, "say", 0, "ask", "lef")
        self.is_refused(hall, 3, "say", 0, "bid", 3)
        self.is_refused(hall, 3, "say", 1, "is", 3)
        # What it would hear, it doesn't say.
        self.is_refused(hall, 3, "say", 1, "ask", "lef")

    def test_a_word_that_it_does_not_say_now(self):
        hall = Hall(MARKET)
        for word in ("bid", "bye", "yes", "go", "is", "a", "", "asks", "as", "ASK", "ask ", "~"):
            for value in ("lef", None, 3):
                self.is_refused(hall, 3, "say", 0, word, value)
        hall.say(0, "ask", "lef")
        hall.hear(1)
        for word in ("ask", "bid", "yes", "off"):
            self.is_refused(hall, 3, "say", 1, word, None)

    def test_a_value_of_another_kind(self):
        hall = Hall(MARKET)
        for odd in ODD_THINGS + ("mid", ("lef",), ["lef"], 10 ** 5000):
            self.is_refused(hall, 3, "say", 0, "ask", odd)
        hall.say(0, "ask", "lef")
        hall.hear(1)
        for odd in (-1, 10, True, False, None, "7", (7,), [7], 10 ** 5000, -10 ** 5000):
            self.is_refused(hall, 3, "say", 1, "is", odd)
        for odd in (0, "", (), False, "no"):
            self.is_refused(hall, 3, "say", 1, "no", odd)
        hall.say(1, "is", 9)
        hall.hear(0)
        hall.say(0, "yes", None)
        for odd in (["rig"], ("rig", "rig", "rig"), ("mid",), "rig", None):
            self.is_refused(hall, 3, "say", 0, "go", odd)

    def test_the_kind_is_that_of_the_word_now(self):
        grammar = (2, (say(0, 1, ("a", DIGIT, 1), ("b", SIDE, 1)), say(0, 1, ("a", SIDE, 2), ("b", DIGIT, 2)), END))
        hall = Hall(grammar)
        self.is_refused(hall, 2, "say", 0, "a", "lef")
        self.is_refused(hall, 2, "say", 0, "b", 1)
        hall.say(0, "a", 1)
        self.is_refused(hall, 2, "say", 0, "a", 1)
        self.is_refused(hall, 2, "say", 0, "b", "lef")
        hall.say(0, "a", "lef")
        self.assertEqual(hall.under_way(0, 1), (("a", 1), ("a", "lef")))

    def test_a_hand_that_does_not_hear_now(self):
        hall = Hall(MARKET)
        self.is_refused(hall, 3, "hear", 0)
        hall.say(0, "ask", "lef")
        hall.hear(1)
        self.is_refused(hall, 3, "hear", 1)
        # Something is under way to hand 1, which says first.
        hall = Hall((3, (say(0, 1, ("a", 1)), say(1, 2, ("b", 2)), say(0, 1, ("c", 3)), END)))
        hall.say(0, "a", None)
        hall.say(0, "c", None)
        hall.hear(1)
        self.assertEqual(hall.under_way(0, 1), (("c", None),))
        self.is_refused(hall, 3, "hear", 1)

    def test_nothing_under_way(self):
        hall = Hall(MARKET)
        self.is_refused(hall, 3, "hear", 1)
        self.is_refused(hall, 3, "hear", 2)
        hall.say(0, "ask", "lef")
        self.is_refused(hall, 3, "hear", 0)
        hall.hear(1)
        hall.say(1, "is", 3)
        hall.hear(0)
        self.is_refused(hall, 3, "hear", 1)

    def test_a_hand_that_has_ended(self):
        hall = Hall(chain(2, hands=3))
        self.is_refused(hall, 3, "hear", 2)
        self.is_refused(hall, 3, "say", 2, "on", None)
        hall.say(0, "on", None)
        self.is_refused(hall, 3, "say", 0, "on", None)
        self.is_refused(hall, 3, "hear", 0)
        hall.hear(1)
        self.is_refused(hall, 3, "hear", 1)

    def test_hands_that_are_not_there(self):
        for grammar, move in ((STREAM, ("n", 3)), (MARKET, ("ask", "lef")), (POST, ("a", 3))):
            hall = Hall(grammar)
            self.hands_are_not_there(hall, grammar[0], *move)
            hall.say(0, *move)
            self.hands_are_not_there(hall, grammar[0], *move)
        self.hands_are_not_there(Hall((2, (END,))), 2, "a", None)

    def hands_are_not_there(self, hall, hands, word, value):
        for odd in NO_HANDS + (hands, hands + 1):
            for method in ("hear", "state", "done"):
                self.is_refused(hall, hands, method, odd)
            self.is_refused(hall, hands, "say", odd, word, value)
            self.is_refused(hall, hands, "under_way", odd, odd)
            for hand in range(hands):
                self.is_refused(hall, hands, "under_way", odd, hand)
                self.is_refused(hall, hands, "under_way", hand, odd)

    def test_one_hand_to_itself_is_there(self):
        hall = Hall(MARKET)
        hall.say(0, "ask", "lef")
        for hand in range(3):
            self.assertEqual(hall.under_way(hand, hand), ())

    def test_no_part_of_a_grammar_that_is_not_fair(self):
        for wider in (NoPart, TalkError, ValueError):
            with self.assertRaises(wider):
                Hall(TRADE)
        for hands in ((0, 1, 2), (1, 2, 0), (2, 0, 1)):
            with self.assertRaises(NoPart):
                Hall(renamed(TRADE, hands, (0, 1, 2, 3, 4)))

    def test_a_hall_or_no_part(self):
        for grammar in made_grammars()[::3]:
            if is_fair(grammar):
                self.assertEqual([Hall(grammar).state(hand) for hand in range(grammar[0])], [0] * grammar[0])
            else:
                with self.assertRaises(NoPart):
                    Hall(grammar)


class ManyTalks(HallCase):
    def test_all_as_written_and_never_stuck(self):
        dice = Dice(31)
        ended = 0
        for grammar in fair_grammars():
            for length in (8, 40, 40):
                hall = Hall(grammar)
                written = Written(parts_of(grammar))
                self.assertEqual(all_told(hall, grammar[0]), written.told())
                while length > 0 and not hall.is_over():
                    self.assertNotEqual(hall.can(), (), grammar)
                    move = made_move(dice, hall, written.parts)
                    self.assertEqual(do(hall, move), written.do(move))
                    self.assertEqual(all_told(hall, grammar[0]), written.told())
                    length -= 1
                ended += hall.is_over()
        self.assertGreater(ended, 50)

    def test_each_way_can_be_gone_word_by_word(self):
        dice = Dice(41)
        for grammar in fair_grammars():
            for round_number in range(4):
                way = made_way(dice, grammar, 25)
                hall = Hall(grammar)
                number = 0
                for word, value in way:
                    one, other = grammar[1][number][1:3]
                    self.assertIn(("say", one, word), hall.can())
                    self.assertIsNone(hall.say(one, word, value))
                    self.assertEqual(hall.under_way(one, other), ((word, value),))
                    self.assertIn(("hear", other), hall.can())
                    self.assertEqual(hall.hear(other), (one, word, value))
                    number = {choice[0]: choice[2] for choice in grammar[1][number][3]}[word]
                self.assertIs(hall.is_over(), grammar[1][number] == END)

    def test_each_way_can_be_gone_with_all_letters_late(self):
        # All that can be said on the way is said first, and heard only where nothing else is left to do.
        dice = Dice(43)
        for grammar in fair_grammars()[::2]:
            way = made_way(dice, grammar, 25)
            hall = Hall(grammar)
            left = [moves_on(grammar, hand, way) for hand in range(grammar[0])]
            while any(left):
                ready = [moves for moves in left if moves and moves[0][:3] in hall.can()]
                self.assertTrue(ready, grammar)
                do(hall, max(ready, key=lambda moves: moves[0][0]).pop(0))
            self.assertIs(hall.is_over(), grammar[1][place_of(grammar, way)] == END)

    def test_two_moves_of_unlike_hands_in_either_order(self):
        dice = Dice(47)
        pairs = 0
        for grammar in fair_grammars()[::2]:
            hall = Hall(grammar)
            parts = [part_of(grammar, hand) for hand in range(grammar[0])]
            for round_number in range(15):
                if hall.is_over():
                    break
                one = made_move(dice, hall, parts)
                other = made_move(dice, hall, parts)
                if one[1] != other[1]:
                    pairs += 1
                    halls = [copy.deepcopy(hall), copy.deepcopy(hall)]
                    firsts = [do(halls[0], one), do(halls[0], other)]
                    seconds = [do(halls[1], other), do(halls[1], one)]
                    self.assertEqual(firsts, seconds[::-1])
                    self.assertEqual(all_told(halls[0], grammar[0]), all_told(halls[1], grammar[0]))
                do(hall, one)
        self.assertGreater(pairs, 100)

    def test_the_same_talk_with_other_numbers(self):
        dice = Dice(53)
        for grammar in fair_grammars():
            hands = made_numbers(dice, grammar[0])
            other = Hall(renamed(grammar, hands, made_numbers(dice, len(grammar[1]), fixed=1)))
            hall = Hall(grammar)
            parts = [part_of(grammar, hand) for hand in range(grammar[0])]
            for round_number in range(15):
                self.same_but_for_numbers(hall, other, hands)
                if hall.is_over():
                    break
                move = made_move(dice, hall, parts)
                told = do(hall, move)
                if told is not None:
                    told = (hands[told[0]],) + told[1:]
                self.assertEqual(do(other, (move[0], hands[move[1]]) + move[2:]), told)

    def same_but_for_numbers(self, hall, other, hands):
        for hand, number in enumerate(hands):
            self.assertEqual(other.state(number), hall.state(hand))
            doings = [(doing[0], hands[doing[1]]) + doing[2:] for doing in hall.done(hand)]
            self.assertEqual(other.done(number), tuple(doings))
            for to, to_number in enumerate(hands):
                self.assertEqual(other.under_way(number, to_number), hall.under_way(hand, to))
        moves = [(move[0], hands[move[1]]) + move[2:] for move in hall.can()]
        self.assertEqual(other.can(), tuple(sorted(moves)))
        self.assertIs(other.is_over(), hall.is_over())


class BeyondTheBounds(HallCase):
    def test_more_places(self):
        grammar = chain(200, hands=3)
        self.assertIs(is_grammar(grammar), False)
        hall = Hall(grammar)
        for number in range(199):
            self.assertEqual(hall.state(0), number)
            hall.say(0, "on", None)
        self.assertEqual([hall.hear(1) for number in range(199)], [(0, "on", None)] * 199)
        self.assertIs(hall.is_over(), True)

    def test_more_hands_longer_words_and_greater_kinds(self):
        kind = ("row", ("number", -3000000, 3000000), 30)
        hall = Hall((6, (say(5, 4, ("longer", kind, 1)), say(4, 0, ("again", ("name", ("lengthy",)), 2)), END)))
        self.is_refused(hall, 6, "say", 5, "longer", (3000001,))
        hall.say(5, "longer", (3000000,) * 30)
        self.assertEqual(hall.hear(4), (5, "longer", (3000000,) * 30))
        hall.say(4, "again", "lengthy")
        self.assertEqual(hall.hear(0), (4, "again", "lengthy"))
        self.assertIs(hall.is_over(), True)
        self.is_refused(hall, 6, "state", 6)


class AllThatIsTold(HallCase):
    def test_tuples_and_no_lists(self):
        dice = Dice(59)
        for grammar in fair_grammars()[::5]:
            hall = Hall(grammar)
            parts = [part_of(grammar, hand) for hand in range(grammar[0])]
            for round_number in range(10):
                self.assertTrue(is_plain(all_told(hall, grammar[0])))
                for hand in range(grammar[0]):
                    self.assertIs(type(hall.state(hand)), int)
                self.assertIs(type(hall.is_over()), bool)
                if hall.can():
                    self.assertTrue(is_plain(do(hall, made_move(dice, hall, parts))))

    def test_asking_changes_nothing_and_is_told_the_same_again(self):
        hall = Hall(POST)
        hall.say(0, "a", 1)
        self.assertEqual(all_told(hall, 4), all_told(hall, 4))

    def test_what_was_told_stays_as_it_was(self):
        hall = Hall(STREAM)
        hall.say(0, "n", 1)
        told = all_told(hall, 2)
        kept = copy.deepcopy(told)
        hall.say(0, "n", 2)
        hall.hear(1)
        self.assertEqual(told, kept)

    def test_the_grammar_is_not_changed(self):
        grammar = copy.deepcopy(MARKET)
        hall = Hall(grammar)
        hall.say(0, "ask", "lef")
        hall.hear(1)
        self.assertEqual(grammar, MARKET)


if __name__ == "__main__":
    unittest.main()
