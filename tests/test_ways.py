"""Point 4.3, and 0.2 (c) of ways: what was done in a hall is a way."""

import unittest

from helper import (
    DIGIT, END, MARKET, Dice, all_told, chain, do, fair_grammars, is_plain, made_move, made_numbers, moves_on, say,
)
from parleyturn.grammars import done_on, place_of, renamed
from parleyturn.halls import Hall
from parleyturn.parts import part_of
from parleyturn.ways import way_of

# Hands 0 and 1 go round until one of them has enough; then hands 2 and 3 talk, and it begins again.
ROUNDS = (4, (
    say(0, 1, ("a", 0), ("b", DIGIT, 1), ("c", 2)), say(1, 0, ("a", 0), ("b", 2)), say(0, 1, ("d", 3)),
    say(2, 3, ("x", DIGIT, 4)), say(3, 2, ("y", 0), ("z", 0)),
))


class WayCase(unittest.TestCase):
    def way_is_right(self, grammar, hall):
        way = way_of(hall)
        self.assertTrue(is_plain(way))
        self.assertIsNotNone(place_of(grammar, way), (grammar, way))
        for hand in range(grammar[0]):
            done = hall.done(hand)
            self.assertEqual(done_on(grammar, hand, way)[:len(done)], done, (grammar, way))
        return way


class WayOf(WayCase):
    def test_behind_no_move(self):
        for grammar in (MARKET, ROUNDS, chain(3), (2, (END,))):
            self.way_is_right(grammar, Hall(grammar))

    def test_one_word_behind_the_other(self):
        hall = Hall(MARKET)
        moves = (
            ("say", 0, "ask", "rig"), ("hear", 1), ("say", 1, "is", 7), ("hear", 0), ("say", 0, "bid", 5), ("hear", 1),
            ("say", 1, "is", 6), ("hear", 0), ("say", 0, "yes", None), ("hear", 1), ("say", 0, "go", ("rig",)),
            ("hear", 2),
        )
        for move in moves:
            do(hall, move)
            self.way_is_right(MARKET, hall)
        self.assertIs(hall.is_over(), True)
        # All is done, so there is but one such way.
        told = (("ask", "rig"), ("is", 7), ("bid", 5), ("is", 6), ("yes", None), ("go", ("rig",)))
        self.assertEqual(way_of(hall), told)

    def test_with_letters_under_way(self):
        hall = Hall(chain(6))
        for letter in range(4):
            hall.say(0, "on", None)
            self.assertGreaterEqual(len(self.way_is_right(chain(6), hall)), letter + 1)
        hall.hear(1)
        self.assertGreaterEqual(len(self.way_is_right(chain(6), hall)), 4)

    def test_hands_that_went_ahead(self):
        # Nothing is said yet by hands 0 and 1, but the word of hand 2 comes behind what they say.
        hall = Hall(ROUNDS)
        hall.say(2, "x", 8)
        self.assertIn(("x", 8), self.way_is_right(ROUNDS, hall))
        hall.hear(3)
        self.way_is_right(ROUNDS, hall)
        hall.say(3, "y", None)
        self.way_is_right(ROUNDS, hall)
        hall.hear(2)
        hall.say(2, "x", 3)
        way = self.way_is_right(ROUNDS, hall)
        self.assertEqual([word for word in way if word[0] in "xy"], [("x", 8), ("y", None), ("x", 3)])

    def test_hands_that_went_ahead_of_many_choices(self):
        # There are 2 ** 59 ways to where hand 2 says it.
        places = [say(0, 1, ("a", number + 1), ("b", number + 1)) for number in range(59)]
        grammar = (4, tuple(places) + (say(2, 3, ("x", 60)), END))
        hall = Hall(grammar)
        hall.say(2, "x", None)
        self.way_is_right(grammar, hall)

    def test_hands_that_went_ahead_of_what_was_chosen(self):
        hall = Hall(ROUNDS)
        hall.say(2, "x", 8)
        hall.say(0, "b", 4)
        self.way_is_right(ROUNDS, hall)
        hall.hear(1)
        hall.say(1, "b", None)
        way = self.way_is_right(ROUNDS, hall)
        self.assertEqual(way[:2], (("b", 4), ("b", None)))
        self.assertIn(("x", 8), way)

    def test_a_hand_that_is_two_rounds_behind(self):
        # Hand 3 has not yet heard what it heard from hand 2, which goes round with hands 0 and 1.
        grammar = (4, (say(2, 3, ("x", DIGIT, 1)), say(2, 0, ("a", DIGIT, 2)), say(0, 1, ("b", 0), ("c", 0))))
        hall = Hall(grammar)
        for number in range(3):
            hall.say(2, "x", number)
            hall.say(2, "a", number + 5)
            self.way_is_right(grammar, hall)
        hall.hear(0)
        hall.say(0, "c", None)
        hall.hear(0)
        hall.say(0, "b", None)
        hall.hear(1)
        way = self.way_is_right(grammar, hall)
        told = (("x", 0), ("a", 5), ("c", None), ("x", 1), ("a", 6), ("b", None), ("x", 2), ("a", 7))
        self.assertEqual(way[:8], told)

    def test_the_values_are_those_that_were_said(self):
        kind = ("pair", DIGIT, ("row", ("number", -5, 5), 3))
        grammar = (2, (say(0, 1, ("v", kind, 0), ("w", 1)), END))
        hall = Hall(grammar)
        values = ((0, ()), (9, (5, -5)), (3, (1, 2, 3)))
        for value in values:
            hall.say(0, "v", value)
        self.assertEqual(self.way_is_right(grammar, hall)[:3], tuple(("v", value) for value in values))

    def test_long_talks(self):
        grammar = (3, (say(0, 1, ("a", DIGIT, 1)), say(1, 2, ("b", 2)), say(2, 0, ("c", 0))))
        hall = Hall(grammar)
        for number in range(700):
            hall.say(0, "a", number % 10)
            hall.hear(1)
            hall.say(1, "b", None)
            hall.hear(2)
            hall.say(2, "c", None)
            hall.hear(0)
        way = self.way_is_right(grammar, hall)
        self.assertEqual(way[:2100], tuple((word, value) for number in range(700) for word, value in (
            ("a", number % 10), ("b", None), ("c", None),
        )))

    def test_more_places_and_choices(self):
        grammar = chain(150)
        grammar = (2, grammar[1][:-1] + (say(1, 0, *[(word, 150) for word in "abcdefghi"]), END))
        hall = Hall(grammar)
        for number in range(149):
            hall.say(0, "on", None)
        self.way_is_right(grammar, hall)
        for number in range(149):
            hall.hear(1)
        hall.say(1, "h", None)
        self.assertEqual(self.way_is_right(grammar, hall), (("on", None),) * 149 + (("h", None),))


class ManyTalks(WayCase):
    def test_behind_each_move(self):
        dice = Dice(61)
        for grammar in fair_grammars():
            parts = [part_of(grammar, hand) for hand in range(grammar[0])]
            for length in (6, 30):
                hall = Hall(grammar)
                while length > 0 and not hall.is_over():
                    do(hall, made_move(dice, hall, parts))
                    self.way_is_right(grammar, hall)
                    length -= 1

    def test_at_the_end_all_of_it_was_done(self):
        dice = Dice(67)
        ended = 0
        for grammar in fair_grammars():
            parts = [part_of(grammar, hand) for hand in range(grammar[0])]
            hall = Hall(grammar)
            for move in range(60):
                if not hall.is_over():
                    do(hall, made_move(dice, hall, parts))
            if hall.is_over():
                ended += 1
                way = self.way_is_right(grammar, hall)
                for hand in range(grammar[0]):
                    self.assertEqual(done_on(grammar, hand, way), hall.done(hand))
        self.assertGreater(ended, 20)

    def test_where_some_hands_are_late(self):
        # One hand does nothing as long as others can do something.
        dice = Dice(71)
        for grammar in fair_grammars():
            parts = [part_of(grammar, hand) for hand in range(grammar[0])]
            for late in range(grammar[0]):
                hall = Hall(grammar)
                for round_number in range(12):
                    if not hall.is_over():
                        do(hall, made_move(dice, hall, parts, late))
                self.way_is_right(grammar, hall)

    def test_each_letter_is_heard(self):
        # What is left of the way can be gone in the hall, and all that is under way is heard on it.
        dice = Dice(79)
        for grammar in fair_grammars():
            hall = Hall(grammar)
            parts = [part_of(grammar, hand) for hand in range(grammar[0])]
            for round_number in range(20):
                if not hall.is_over():
                    do(hall, made_move(dice, hall, parts))
            way = way_of(hall)
            left = [moves_on(grammar, hand, way)[len(hall.done(hand)):] for hand in range(grammar[0])]
            while any(left):
                ready = [moves for moves in left if moves and moves[0][:3] in hall.can()]
                self.assertTrue(ready, grammar)
                do(hall, ready[0].pop(0))
            self.assertFalse(any(all_told(hall, grammar[0])[2]))

    def test_other_numbers_change_nothing(self):
        dice = Dice(73)
        for grammar in fair_grammars()[::2]:
            hands = made_numbers(dice, grammar[0])
            told = renamed(grammar, hands, made_numbers(dice, len(grammar[1]), fixed=1))
            hall = Hall(grammar)
            other = Hall(told)
            parts = [part_of(grammar, hand) for hand in range(grammar[0])]
            for round_number in range(15):
                if not hall.is_over():
                    move = made_move(dice, hall, parts)
                    do(hall, move)
                    do(other, (move[0], hands[move[1]]) + move[2:])
            self.way_is_right(told, other)
            self.assertEqual(way_of(other), way_of(hall))


class AllThatIsTold(WayCase):
    def test_asking_changes_nothing_and_is_told_the_same_again(self):
        hall = Hall(ROUNDS)
        hall.say(2, "x", 8)
        hall.say(0, "b", 4)
        before = all_told(hall, 4)
        self.assertEqual(way_of(hall), way_of(hall))
        self.assertEqual(all_told(hall, 4), before)


if __name__ == "__main__":
    unittest.main()
