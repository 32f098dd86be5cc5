"""Points 9.1 and 9.2, and 0.2 (g)."""

import copy
import unittest

from helper import (
    DIGIT, END, MARKET, NONE, SIDE, Dice, chain, do, doubled, fair_grammars, is_fair_by_sets, is_plain, lesser,
    made_move, made_numbers, narrower, parts_of, reordered, say, values_of, wider,
)
from parleyturn.grammars import is_grammar
from parleyturn.joining import again, asked
from parleyturn.kinds import is_value
from parleyturn.making import made
from parleyturn.parts import is_fair, part_of
from parleyturn.standing import hall_with, stands


def says(other, *choices):
    """A state, its choices written as (word, state), of the kind none, or as (word, kind, state)."""
    return ("says", other, say(0, 0, *choices)[3])


def hears(one, *choices):
    return ("hears", one, says(one, *choices)[2])


def next_talk(parts, standing):
    """Who says next, and to whom, by the words of 9.1; None where no hand is ready."""
    numbers, last = standing
    hands = len(parts)
    round_of_hands = [hand for hand in range(hands) if hand > last] + [hand for hand in range(hands) if hand <= last]
    for hand in round_of_hands:
        state = parts[hand][numbers[hand]]
        if state[0] == "says" and state[1] in range(hands):
            partner = parts[state[1]][numbers[state[1]]]
            if partner[0] == "hears" and partner[1] == hand:
                return hand, state[1]
    return None


def is_heard(choice, choices):
    kinds = {word: kind for word, kind, state in choices}
    return choice[0] in kinds and all(is_value(kinds[choice[0]], value) for value in values_of(choice[1]))


def steps(parts, standing):
    """For each word that can be said next, (one, word) and where it leads to; None where it is not heard."""
    talk = next_talk(parts, standing)
    told = {}
    if talk is not None:
        one, other = talk
        choices = parts[other][standing[0][other]][2]
        for choice in parts[one][standing[0][one]][2]:
            told[one, choice[0]] = None
            if is_heard(choice, choices):
                numbers = list(standing[0])
                numbers[one] = choice[2]
                numbers[other] = {word: state for word, kind, state in choices}[choice[0]]
                told[one, choice[0]] = (tuple(numbers), one)
    return told


def start_of(parts):
    return ((0,) * len(parts), len(parts) - 1)


def all_standings(parts, start):
    """All standings to which one comes, in the order of first coming."""
    order = [start]
    known = {start, None}
    for standing in order:
        for following in steps(parts, standing).values():
            if following not in known:
                known.add(following)
                order.append(following)
    return order


def has_ended(parts, standing, hand):
    return parts[hand][standing[0][hand]] == END


def is_stuck(parts, standing):
    ended = all(has_ended(parts, standing, hand) for hand in range(len(parts)))
    return next_talk(parts, standing) is None and not ended


def is_left(parts, standing, hand):
    if has_ended(parts, standing, hand):
        return False
    return not any(hand in (next_talk(parts, later) or ()) for later in all_standings(parts, standing))


def grammar_by_names(parts):
    order = all_standings(parts, start_of(parts))
    places = []
    for standing in order:
        talk = next_talk(parts, standing)
        if talk is None:
            places.append(END)
            continue
        choices = parts[talk[0]][standing[0][talk[0]]][2]
        led = steps(parts, standing)
        places.append(("say",) + talk + (tuple(
            (word, kind, order.index(led[talk[0], word])) for word, kind, state in choices
        ),))
    return (len(parts), tuple(places))


class MadeCase(unittest.TestCase):
    def told_rightly(self, parts):
        told = made(parts)
        standings = all_standings(parts, start_of(parts))
        wrong = any(is_stuck(parts, standing) or None in steps(parts, standing).values() for standing in standings)
        sort = told[0]
        if wrong:
            self.assertIn(sort, ("stuck", "unheard"), parts)
        else:
            left = any(is_left(parts, standing, hand) for standing in standings for hand in range(len(parts)))
            self.assertEqual(sort, "left" if left else "grammar", parts)
        if sort == "grammar":
            self.assertEqual(told, ("grammar", grammar_by_names(parts)))
        else:
            self.fails_there(parts, told)
        return told

    def fails_there(self, parts, told):
        """What is told of a run is so."""
        run = told[1]
        self.assertIsInstance(run, tuple)
        self.assertEqual(len(told), 3 if told[0] == "left" else 2)
        standing = start_of(parts)
        for said in run[:-1] if told[0] == "unheard" else run:
            self.assertIsNotNone(steps(parts, standing).get(said), (parts, told))
            standing = steps(parts, standing)[said]
        if told[0] == "stuck":
            self.assertTrue(is_stuck(parts, standing))
        elif told[0] == "unheard":
            self.assertIn(run[-1], steps(parts, standing))
            self.assertIsNone(steps(parts, standing)[run[-1]])
        else:
            self.assertTrue(is_left(parts, standing, told[2]))

    def tells(self, parts, *tellings):
        """What is told is one of these."""
        self.assertIn(self.told_rightly(parts), tellings)


class Grammars(MadeCase):
    def test_an_end_at_once(self):
        for hands in (2, 3, 4):
            self.tells(((END,),) * hands, ("grammar", (hands, (END,))))
            self.tells(((END, says(0, ("a", 0))),) * hands, ("grammar", (hands, (END,))))

    def test_one_word(self):
        self.tells(((says(1, ("a", DIGIT, 1)), END), (hears(0, ("a", DIGIT, 1)), END)), (
            "grammar", (2, (say(0, 1, ("a", DIGIT, 1)), END)),
        ))
        self.tells(((hears(1, ("a", 1)), END), (says(0, ("a", 1)), END)), ("grammar", (2, (say(1, 0, ("a", 1)), END))))

    def test_parts_that_go_round_for_ever(self):
        self.tells(((says(1, ("a", 0)),), (hears(0, ("a", 0)),)), ("grammar", (2, (
            say(0, 1, ("a", 1)), say(0, 1, ("a", 1)),
        ))))
        self.tells(((hears(1, ("a", 0)),), (says(0, ("a", 0)),)), ("grammar", (2, (say(1, 0, ("a", 0)),))))

    def test_who_said_last_makes_a_place_of_its_own(self):
        # By two words the same states are come to, but another hand said last.
        parts = (
            (says(1, ("x", 2), ("y", 1)), hears(1, ("z", 2)), END),
            (hears(0, ("x", 2), ("y", 1)), says(0, ("z", 2)), END),
        )
        self.tells(parts, ("grammar", (2, (say(0, 1, ("x", 1), ("y", 2)), END, say(1, 0, ("z", 3)), END))))

    def test_states_that_do_the_same_make_places_of_their_own(self):
        parts = ((says(1, ("x", 1), ("y", 2)), END, END), (hears(0, ("x", 1), ("y", 1)), END))
        self.tells(parts, ("grammar", (2, (say(0, 1, ("x", 1), ("y", 2)), END, END))))

    def test_the_order_of_places(self):
        # Place by place, and word by word, whatever the numbers of states.
        parts = (
            (says(1, ("a", 3), ("b", 2), ("c", 1)), END, hears(1, ("r", 4)), hears(1, ("p", 0), ("q", 1)), END),
            (hears(0, ("a", 1), ("b", 2), ("c", 3)), says(0, ("p", 0), ("q", 3)), says(0, ("r", 3)), END),
        )
        self.tells(parts, ("grammar", (2, (
            say(0, 1, ("a", 1), ("b", 2), ("c", 3)), say(1, 0, ("p", 0), ("q", 4)), say(1, 0, ("r", 5)), END, END, END,
        ))))

    def test_going_round_from_the_hand_behind_the_one_that_said_last(self):
        # Hands 0 and 2 both go on for ever: each of them says something in its turn.
        parts = ((says(1, ("a", 0)),), (hears(0, ("a", 0)),), (says(3, ("b", 0)),), (hears(2, ("b", 0)),))
        self.tells(parts, ("grammar", (4, (say(0, 1, ("a", 1)), say(2, 3, ("b", 2)), say(0, 1, ("a", 1))))))
        # Hands 1 and 3 here; at first hand 0 comes next, and then hand 1.
        parts = ((hears(1, ("a", 0)),), (says(0, ("a", 0)),), (hears(3, ("b", 0)),), (says(2, ("b", 0)),))
        self.tells(parts, ("grammar", (4, (say(1, 0, ("a", 1)), say(3, 2, ("b", 0))))))

    def test_the_hand_that_said_last_comes_last(self):
        # Hand 2 is ready as well as hand 0, which would go on.
        parts = (
            (says(1, ("a", 1)), says(1, ("a", 2)), END), (hears(0, ("a", 1)), hears(0, ("a", 2)), END),
            (says(3, ("b", 1)), END), (hears(2, ("b", 1)), END),
        )
        self.tells(parts, ("grammar", (4, (
            say(0, 1, ("a", 1)), say(2, 3, ("b", 2)), say(0, 1, ("a", 3)), END,
        ))))
        # Hand 1 says it to both others: none but it is ever ready.
        parts = ((hears(1, ("a", 1)), END), (says(0, ("a", 1)), says(2, ("a", 2)), END), (hears(1, ("a", 1)), END))
        self.tells(parts, ("grammar", (3, (say(1, 0, ("a", 1)), say(1, 2, ("a", 2)), END))))

    def test_a_hand_that_says_to_one_who_does_not_hear_from_it_yet(self):
        # Hand 0 says something to hand 2, which hears from hand 1 first.
        parts = ((says(2, ("a", 1)), END), (says(2, ("b", 1)), END), (hears(1, ("b", 1)), hears(0, ("a", 2)), END))
        self.tells(parts, ("grammar", (3, (say(1, 2, ("b", 1)), say(0, 2, ("a", 2)), END))))

    def test_kinds_are_those_of_the_one_who_says_it(self):
        parts = ((says(1, ("a", ("number", 3, 4), 1)), END), (hears(0, ("a", DIGIT, 1), ("b", 0)), END))
        self.tells(parts, ("grammar", (2, (say(0, 1, ("a", ("number", 3, 4), 1)), END))))
        parts = ((says(1, ("a", ("pair", SIDE, SIDE), 1)), END), (hears(0, ("a", ("row", SIDE, 2), 1)), END))
        self.tells(parts, ("grammar", (2, (say(0, 1, ("a", ("pair", SIDE, SIDE), 1)), END))))

    def test_words_that_are_never_said(self):
        parts = ((says(1, ("b", 1)), END), (hears(0, ("a", 0), ("b", 1), ("c", 2)), END, says(7, ("x", 0))))
        self.tells(parts, ("grammar", (2, (say(0, 1, ("b", 1)), END))))

    def test_grammars_that_are_not_fair(self):
        # What hand 2 hears has one kind where hand 0 chose x, and another one where it chose y.
        parts = (
            (says(1, ("x", 1), ("y", 2)), says(2, ("a", ("number", 0, 1), 3)), says(2, ("a", DIGIT, 3)), END),
            (hears(0, ("x", 1), ("y", 1)), END), (hears(0, ("a", DIGIT, 1)), END),
        )
        told = self.told_rightly(parts)
        self.assertEqual(told[0], "grammar")
        self.assertIs(is_fair(told[1]), False)

    def test_many_standings(self):
        def counter(length, says_it):
            state = (lambda to: says(1, ("a", to))) if says_it else (lambda to: hears(0, ("a", to)))
            return tuple(state((number + 1) % length) for number in range(length))
        told = made((counter(17, True), counter(16, False)))
        self.assertEqual(told[0], "grammar")
        # The first standing is come to again, but hand 0 said last then.
        self.assertEqual(len(told[1][1]), 17 * 16 + 1)
        self.assertEqual(told[1][1][5], say(0, 1, ("a", 6)))
        self.assertEqual(told[1][1][-1], say(0, 1, ("a", 1)))

    def test_more_than_five_words_and_sixty_places(self):
        parts = parts_of(chain(100))
        self.assertEqual(made(parts), ("grammar", chain(100)))
        words = [(word, 1) for word in "abcdefghij"]
        parts = ((says(1, *words), END), (hears(0, *words), END))
        self.tells(parts, ("grammar", (2, (say(0, 1, *words), END))))


class Stuck(MadeCase):
    def test_at_once(self):
        one, other = says(1, ("a", 0)), hears(1, ("a", 0))
        two, three = says(0, ("a", 0)), hears(0, ("a", 0))
        for parts in ((one, two), (other, three), (one, END), (END, three), (other, END), (END, two)):
            self.tells(tuple((state, END) for state in parts), ("stuck", ()))

    def test_behind_some_words(self):
        parts = ((says(1, ("a", 1)), says(1, ("b", 2)), END), (hears(0, ("a", 1)), hears(0, ("b", 0))))
        self.tells(parts, ("stuck", ((0, "a"), (0, "b"))))
        parts = ((says(1, ("a", 1)), hears(1, ("b", 2)), END), (hears(0, ("a", 1)), says(0, ("b", 1))))
        self.tells(parts, ("stuck", ((0, "a"), (1, "b"))))

    def test_behind_one_of_several_words(self):
        parts = ((says(1, ("a", 1), ("b", 1), ("c", 1)), END), (hears(0, ("a", 1), ("b", 0), ("c", 1)), END))
        self.tells(parts, ("stuck", ((0, "b"),)))
        parts = ((says(1, ("a", 1), ("b", 1), ("c", 1)), END), (hears(0, ("a", 0), ("b", 1), ("c", 0)), END))
        self.tells(parts, ("stuck", ((0, "a"),)), ("stuck", ((0, "c"),)))

    def test_hands_that_wait_for_one_another_in_a_ring(self):
        parts = tuple((hears((hand + 1) % 3, ("a", 1)), END) for hand in range(3))
        self.tells(parts, ("stuck", ()))
        parts = tuple((says((hand + 1) % 3, ("a", 1)), END) for hand in range(3))
        self.tells(parts, ("stuck", ()))
        parts = tuple((says((hand + 1) % 4, ("a", 1)), hears((hand + 3) % 4, ("a", 2)), END) for hand in range(4))
        self.tells(parts, ("stuck", ()))

    def test_one_hand_is_left_over_when_all_others_have_ended(self):
        for third in (hears(0, ("a", 0)), says(0, ("a", 0)), says(1, ("a", 0))):
            self.tells(((says(1, ("a", 1)), END), (hears(0, ("a", 1)), END), (third,)), ("stuck", ((0, "a"),)))

    def test_a_hand_to_itself_or_to_one_that_is_not_there(self):
        for other in (0, 2, 5, -1, 10 ** 30):
            self.tells(((says(other, ("a", 1)), END), (hears(0, ("a", 1)), END)), ("stuck", ()))
            self.tells(((hears(other, ("a", 1)), END), (says(0, ("a", 1)), END)), ("stuck", ()))


class Unheard(MadeCase):
    def test_a_word_that_the_other_hand_can_not_hear(self):
        self.tells(((says(1, ("a", 1)), END), (hears(0, ("b", 1)), END)), ("unheard", ((0, "a"),)))
        self.tells(((says(1, ("a", 1), ("b", 1)), END), (hears(0, ("b", 1)), END)), ("unheard", ((0, "a"),)))
        self.tells(((says(1, ("a", 1), ("b", 1)), END), (hears(0, ("a", 1)), END)), ("unheard", ((0, "b"),)))

    def test_a_kind_that_does_not_lie_within(self):
        kinds = (
            (DIGIT, ("number", 0, 8)), (("number", -1, 9), DIGIT), (SIDE, ("name", ("lef",))), (NONE, DIGIT),
            (DIGIT, NONE), (("row", SIDE, 2), ("row", SIDE, 1)), (("row", SIDE, 2), ("pair", SIDE, SIDE)),
            (("row", SIDE, 1), SIDE),
        )
        for said, heard in kinds:
            self.tells(((says(1, ("a", said, 1)), END), (hears(0, ("a", heard, 1)), END)), ("unheard", ((0, "a"),)))
        self.tells(((hears(1, ("a", SIDE, 1)), END), (says(0, ("a", DIGIT, 1)), END)), ("unheard", ((1, "a"),)))

    def test_behind_some_words(self):
        parts = ((says(1, ("a", 1)), hears(1, ("b", 0))), (hears(0, ("a", 1)), says(0, ("b", 0), ("c", 0))))
        self.tells(parts, ("unheard", ((0, "a"), (1, "c"))))
        parts = ((says(1, ("a", 1)), says(1, ("a", 0), ("d", 0))), (hears(0, ("a", 0)),))
        self.tells(parts, ("unheard", ((0, "a"), (0, "d"))))

    def test_only_the_hand_that_says_next_is_looked_at(self):
        # Hand 2 says what hand 3 can't hear, but behind hand 0.
        parts = (
            (says(1, ("a", 1)), END), (hears(0, ("a", 1)), END), (says(3, ("b", 1)), END), (hears(2, ("c", 1)), END),
        )
        self.tells(parts, ("unheard", ((0, "a"), (2, "b"))))

    def test_what_can_never_be_said(self):
        # Hand 0 says what hand 1 can't hear only to a hand that never hears from it.
        parts = ((says(1, ("a", 1)), END, says(1, ("z", 0))), (hears(0, ("a", 1)), END))
        self.tells(parts, ("grammar", (2, (say(0, 1, ("a", 1)), END))))

    def test_stuck_or_unheard_where_there_are_both(self):
        parts = ((says(1, ("a", 1), ("b", 1)), END), (hears(0, ("a", 0)), END))
        self.tells(parts, ("stuck", ((0, "a"),)), ("unheard", ((0, "b"),)))


class Left(MadeCase):
    def test_a_hand_waits_for_ever(self):
        parts = ((says(1, ("a", 0)),), (hears(0, ("a", 0)),), (hears(0, ("b", 1)), END))
        told = self.told_rightly(parts)
        self.assertEqual((told[0], told[2]), ("left", 2))
        self.assertLess(len(set(told[1])), 2)

    def test_a_hand_that_would_say_something(self):
        parts = ((says(1, ("a", 0)),), (hears(0, ("a", 0)),), (says(0, ("b", 1)), END))
        self.assertEqual(self.told_rightly(parts)[::2], ("left", 2))

    def test_several_hands(self):
        parts = ((hears(1, ("b", 0)),), (says(3, ("b", 0)),), (says(3, ("a", 0)),), (hears(2, ("a", 0)),))
        told = self.told_rightly(parts)
        self.assertEqual(told[0], "left")
        self.assertIn(told[2], (0, 1))

    def test_behind_one_of_several_words(self):
        # Behind y nothing is said to hand 2 any more.
        parts = (
            (says(1, ("x", 1), ("y", 2)), says(2, ("b", 3)), says(1, ("y", 2)), END),
            (hears(0, ("x", 1), ("y", 2)), END, hears(0, ("y", 2))), (hears(0, ("b", 1)), END),
        )
        told = self.told_rightly(parts)
        self.assertEqual((told[0], told[2]), ("left", 2))
        self.assertEqual(set(told[1]), {(0, "y")})

    def test_not_while_it_may_still_hear_something(self):
        parts = (
            (says(1, ("x", 0), ("y", 1)), says(2, ("b", 2)), END), (hears(0, ("x", 0), ("y", 1)), END),
            (hears(0, ("b", 1)), END),
        )
        self.tells(parts, ("grammar", grammar_by_names(parts)))

    def test_not_of_a_hand_that_has_ended(self):
        parts = ((says(1, ("a", 0)),), (hears(0, ("a", 0)),), (END,))
        self.tells(parts, ("grammar", (3, (say(0, 1, ("a", 1)), say(0, 1, ("a", 1))))))

    def test_only_where_nothing_is_stuck_or_unheard(self):
        # Hand 2 is left in all standings; behind z hands 0 and 1 stick, or z is not heard.
        one = (says(1, ("a", 0), ("z", 1)), END)
        waits = (hears(0, ("b", 1)), END)
        self.tells((one, (hears(0, ("a", 0), ("z", 0)),), waits), ("stuck", ((0, "z"),)))
        self.tells((one, (hears(0, ("a", 0)),), waits), ("unheard", ((0, "z"),)))
        # And far behind where it is left.
        steps_on = [says(1, ("a", number + 1)) for number in range(20)]
        hearing = [hears(0, ("a", number + 1)) for number in range(20)]
        parts = (tuple(steps_on) + (says(1, ("a", 20), ("z", 20)),), tuple(hearing) + (hears(0, ("a", 20)),), waits)
        self.tells(parts, ("unheard", ((0, "a"),) * 20 + ((0, "z"),)))
        parts = parts[:1] + (tuple(hearing) + (hears(0, ("a", 20), ("z", 21)), END), waits)
        self.tells(parts, ("stuck", ((0, "a"),) * 20 + ((0, "z"),)))


class OfGrammars(MadeCase):
    def test_two_hands(self):
        # All places are turns of both, so that the same grammar is made, if one hand said last at each place.
        for grammar in (chain(5), (2, (say(1, 0, ("a", DIGIT, 1), ("b", 2)), END, say(0, 1, ("c", 3)), END))):
            self.assertEqual(made(parts_of(grammar)), ("grammar", grammar))

    def test_parts_of_fair_grammars(self):
        made_grammars = set()
        for grammar in fair_grammars():
            parts = tuple(part_of(grammar, hand) for hand in range(grammar[0]))
            told = self.told_rightly(parts)
            self.assertEqual(told[0], "grammar")
            self.assertEqual(told[1][0], grammar[0])
            self.assertTrue(is_fair_by_sets(told[1]))
            for hand, part in enumerate(parts):
                self.assertIs(stands(part, part_of(told[1], hand)), True)
                self.assertIs(stands(part_of(told[1], hand), part), True)
            made_grammars.add(told[1])
        self.assertGreater(len(made_grammars), 100)

    def test_in_another_order_and_doubled(self):
        dice = Dice(503)
        for grammar in fair_grammars()[::3]:
            parts = tuple(reordered(dice, doubled(dice, part)) for part in parts_of(grammar))
            told = made(parts)
            self.assertEqual(told[0], "grammar")
            self.assertTrue(is_fair_by_sets(told[1]))
            for hand, part in enumerate(parts):
                self.assertIs(stands(part, part_of(told[1], hand)), True)
                self.assertIs(stands(part_of(told[1], hand), part), True)

    def test_lesser_parts(self):
        dice = Dice(509)
        seen = {"grammar": 0, "left": 0}
        for grammar in fair_grammars():
            for round_number in range(3):
                parts = tuple(dice.one_of((part, lesser(dice, part))) for part in parts_of(grammar))
                told = made(parts) if round_number else self.told_rightly(parts)
                # They stand for parts that never stick.
                seen[told[0]] += 1
                if told[0] == "grammar" and is_fair_by_sets(told[1]):
                    self.they_never_stick(dice, told[1], parts)
        self.assertGreater(min(seen.values()), 5)

    def they_never_stick(self, dice, grammar, parts):
        for hand, part in enumerate(parts):
            self.assertIs(stands(part, part_of(grammar, hand)), True)
        hall = hall_with(grammar, parts)
        for round_number in range(25):
            if hall.is_over():
                break
            self.assertTrue(hall.can())
            do(hall, made_move(dice, hall, parts))

    def test_parts_exchanged(self):
        dice = Dice(521)
        seen = set()
        for grammar in fair_grammars():
            parts = list(parts_of(grammar))
            other = dice.one_of([told for told in fair_grammars() if told[0] == grammar[0]])
            hand = dice.below(grammar[0])
            parts[hand] = parts_of(other)[hand]
            seen.add(self.told_rightly(tuple(parts))[0])
            hands = made_numbers(dice, grammar[0])
            seen.add(self.told_rightly(tuple(parts[hand] for hand in hands))[0])
        self.assertGreaterEqual(seen, {"stuck", "unheard", "grammar"})

    def test_grammars_put_together(self):
        grammar = again(asked((MARKET, MARKET), 2, ("one", "two")), 0, "mor", "sto")
        told = made(parts_of(grammar))
        self.assertEqual(told[0], "grammar")
        self.assertIs(is_fair(told[1]), True)
        for hand, part in enumerate(parts_of(grammar)):
            self.assertIs(stands(part, part_of(told[1], hand)), True)
            self.assertIs(stands(part_of(told[1], hand), part), True)


def made_state(dice, hand, hands, count):
    sort = dice.below(5)
    if sort == 0:
        return END
    partner = (hand + 1 + dice.below(hands - 1)) % hands
    words = dice.one_of(("a", "b", "ab", "ab", "abc"))
    kinds = (NONE, NONE, NONE, NONE, ("number", 0, 1), ("number", 0, 2))
    choices = [(word, dice.one_of(kinds), dice.below(count)) for word in words]
    return (says if sort < 3 else hears)(partner, *choices)


def made_part(dice, hand, hands):
    count = 1 + dice.below(3)
    return tuple(made_state(dice, hand, hands, count) for number in range(count))


def spoiled(dice, part):
    """A part with one change in one state."""
    number = dice.below(len(part))
    if part[number] == END:
        return part
    role, partner, choices = part[number]
    spot = dice.below(len(choices))
    word, kind, to = choices[spot]
    change = dice.below(4)
    if change == 0 and len(choices) > 1:
        told = choices[:spot] + choices[spot + 1:]
    elif change == 1:
        told = choices[:spot] + ((word, dice.one_of((narrower, wider))(dice, kind), to),) + choices[spot + 1:]
    elif change == 2:
        told = choices[:spot] + ((word, kind, dice.below(len(part))),) + choices[spot + 1:]
    else:
        told = choices + (("zz", NONE, dice.below(len(part))),)
    return part[:number] + ((role, partner, told),) + part[number + 1:]


class ManyParts(MadeCase):
    def test_small_parts_by_themselves(self):
        dice = Dice(523)
        seen = {}
        for round_number in range(6000):
            hands = dice.one_of((2, 2, 3, 4))
            parts = tuple(made_part(dice, hand, hands) for hand in range(hands))
            told = self.told_rightly(parts)
            seen[told[0], hands] = seen.get((told[0], hands), 0) + 1
        # Two hands are never left: where one is, none is ready.
        self.assertEqual(len(seen), 11)

    def test_parts_with_a_change(self):
        dice = Dice(541)
        seen = {}
        for grammar in fair_grammars():
            for round_number in range(4):
                parts = tuple(spoiled(dice, part) if dice.below(2) else part for part in parts_of(grammar))
                told = self.told_rightly(parts)
                seen[told[0]] = seen.get(told[0], 0) + 1
        self.assertEqual(len(seen), 4)

    def test_other_numbers_of_states_change_nothing(self):
        dice = Dice(547)
        for grammar in fair_grammars()[::4]:
            parts = tuple(spoiled(dice, part) if dice.below(3) == 0 else part for part in parts_of(grammar))
            self.assertEqual(made(tuple(reordered(dice, part) for part in parts)), made(parts))

    def test_the_same_is_told_again_and_nothing_is_changed(self):
        dice = Dice(557)
        for grammar in fair_grammars()[::4]:
            parts = tuple(spoiled(dice, part) if dice.below(3) == 0 else part for part in parts_of(grammar))
            kept = copy.deepcopy(parts)
            told = made(parts)
            self.assertTrue(is_plain(told))
            self.assertEqual(made(copy.deepcopy(parts)), told)
            self.assertEqual(parts, kept)
            if told[0] == "grammar" and len(told[1][1]) <= 60:
                self.assertIs(is_grammar(told[1]), True)


if __name__ == "__main__":
    unittest.main()
