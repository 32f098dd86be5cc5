"""Points 7.1 and 7.2, and 0.2 (e) of parts that stand for a hand's own."""

import copy
import unittest

from helper import (
    DIGIT, END, MARKET, NONE, SIDE, TRADE, Dice, Written, all_told, chain, do, doubled, fair_grammars, is_plain, lesser,
    made_grammars, made_move, made_numbers, made_way, moves_on, narrower, parts_of, reordered, say, small_kinds,
    values_of, wider,
)
from parleyturn.errors import NoMove, NoPart, NoStand, TalkError
from parleyturn.grammars import done_on, place_of, renamed
from parleyturn.halls import Hall
from parleyturn.joining import again, asked
from parleyturn.kinds import is_value
from parleyturn.logs import judge
from parleyturn.parts import is_fair, part_of
from parleyturn.standing import clash, hall_with, stands
from parleyturn.ways import way_of

# Hand 0 bids for hand 1 until it has enough; hand 1 says yes or no to each bid, and tells hand 2 how it ended.
BIDS = (3, (
    say(0, 1, ("bid", DIGIT, 1), ("end", 2)), say(1, 0, ("no", 0), ("yes", SIDE, 0)),
    say(1, 2, ("few", 3), ("man", DIGIT, 3)), END,
))


def says(other, *choices):
    """A state, its choices written as (word, state), of the kind none, or as (word, kind, state)."""
    return ("says", other, say(0, 0, *choices)[3])


def hears(one, *choices):
    return ("hears", one, says(one, *choices)[2])


def words_at(state):
    return {} if state == END else {word: (kind, to) for word, kind, to in state[2]}


def lies_within(kind, other):
    return all(is_value(other, value) for value in values_of(kind))


def fit(state, other):
    """Whether two states fit, by the words of 7.1, values being counted out."""
    if state == END or other == END:
        return state == END and other == END
    mine, its = words_at(state), words_at(other)
    if state[0] != other[0] or state[1] != other[1]:
        return False
    few, many = (mine, its) if state[0] == "says" else (its, mine)
    return set(few) <= set(many) and all(lies_within(few[word][0], many[word][0]) for word in few)


def common_pairs(part, other):
    """The pairs of states to which one comes from both states 0 along words that both have."""
    found = set()
    waiting = {(0, 0)}
    while waiting:
        found |= waiting
        waiting = {
            (words_at(part[one])[word][1], words_at(other[two])[word][1])
            for one, two in waiting for word in words_at(part[one]) if word in words_at(other[two])
        } - found
    return found


def with_state(part, number, state):
    return part[:number] + (state,) + part[number + 1:]


def spoiled(dice, part):
    """A part with a change that may let it stand for another one no more."""
    number = dice.below(len(part))
    state = part[number]
    change = dice.below(7)
    if change == 0 or state == END:
        return with_state(part, number, dice.one_of((END, says(1, ("a", 0)), hears(1, ("a", 0)))))
    choices = list(state[2])
    spot = dice.below(len(choices))
    word, kind, to = choices[spot]
    if change == 1:
        choices.pop(spot)
    elif change == 2:
        choices[spot] = (word, wider(dice, kind), to)
    elif change == 3:
        choices[spot] = (word, narrower(dice, kind), to)
    elif change == 4:
        choices[spot] = (word, kind, dice.below(len(part)))
    elif change == 5:
        choices += [("m", NONE, dice.below(len(part)))]
    else:
        return with_state(part, number, (dice.one_of(("says", "hears")), dice.below(3), state[2]))
    return with_state(part, number, state[:2] + (tuple(sorted(choices)),)) if choices else part


class StandingCase(unittest.TestCase):
    def told_rightly(self, part, other):
        told = clash(part, other)
        self.assertIs(stands(part, other), told is None)
        self.assertEqual(told is None, all(fit(part[one], other[two]) for one, two in common_pairs(part, other)))
        if told is not None:
            self.leads_to_a_clash(part, other, told)
        return told

    def leads_to_a_clash(self, part, other, told):
        self.assertIsInstance(told, tuple)
        one = two = 0
        for word in told:
            self.assertIn(word, words_at(part[one]), (part, other, told))
            self.assertIn(word, words_at(other[two]), (part, other, told))
            one = words_at(part[one])[word][1]
            two = words_at(other[two])[word][1]
        self.assertFalse(fit(part[one], other[two]), (part, other, told))

    def stand(self, part, other):
        self.assertIsNone(clash(part, other), (part, other))
        self.assertIs(stands(part, other), True)

    def do_not_stand(self, part, other, *clashes):
        """They don't, and what is told is one of these."""
        told = self.told_rightly(part, other)
        self.assertIs(stands(part, other), False)
        self.assertIn(told, clashes)


class Fit(StandingCase):
    def test_ends(self):
        self.stand((END,), (END,))

    def test_each_sort_against_each_other_one(self):
        states = (END, says(1, ("a", 1)), says(2, ("a", 1)), hears(1, ("a", 1)), hears(2, ("a", 1)))
        for one in states:
            for other in states:
                if one == other:
                    self.stand((one, END), (other, END))
                else:
                    self.do_not_stand((one, END), (other, END), ())

    def test_saying_fewer_words(self):
        more = says(1, ("a", 1), ("b", 1), ("c", 1))
        for fewer in (says(1, ("a", 1), ("b", 1)), says(1, ("a", 1), ("c", 1)), says(1, ("b", 1))):
            self.stand((fewer, END), (more, END))
            self.do_not_stand((more, END), (fewer, END), ())

    def test_hearing_more_words(self):
        more = hears(1, ("a", 1), ("b", 1), ("c", 1))
        for fewer in (hears(1, ("a", 1), ("b", 1)), hears(1, ("a", 1), ("c", 1)), hears(1, ("b", 1))):
            self.stand((more, END), (fewer, END))
            self.do_not_stand((fewer, END), (more, END), ())

    def test_other_words(self):
        for state in (says, hears):
            self.do_not_stand((state(1, ("a", 1)), END), (state(1, ("b", 1)), END), ())
            self.do_not_stand((state(1, ("a", 1), ("b", 1)), END), (state(1, ("b", 1), ("c", 1)), END), ())

    def test_kinds(self):
        # A pair of kinds of which the first one lies within the second one, but not the other way round.
        kinds = (
            (DIGIT, ("number", 0, 10)), (("number", 3, 3), DIGIT), (("name", ("lef",)), SIDE),
            (("row", SIDE, 1), ("row", SIDE, 2)), (("row", DIGIT, 0), ("row", SIDE, 1)),
            (("pair", DIGIT, DIGIT), ("row", DIGIT, 2)),
        )
        for narrow, wide in kinds:
            self.stand((says(1, ("a", narrow, 1)), END), (says(1, ("a", wide, 1)), END))
            self.do_not_stand((says(1, ("a", wide, 1)), END), (says(1, ("a", narrow, 1)), END), ())
            self.stand((hears(1, ("a", wide, 1)), END), (hears(1, ("a", narrow, 1)), END))
            self.do_not_stand((hears(1, ("a", narrow, 1)), END), (hears(1, ("a", wide, 1)), END), ())

    def test_kinds_that_share_some_values_or_none(self):
        kinds = ((DIGIT, ("number", 5, 12)), (DIGIT, SIDE), (NONE, DIGIT), (("row", SIDE, 1), SIDE))
        for one, other in kinds:
            for state in (says, hears):
                self.do_not_stand((state(1, ("a", one, 1)), END), (state(1, ("a", other, 1)), END), ())
                self.do_not_stand((state(1, ("a", other, 1)), END), (state(1, ("a", one, 1)), END), ())

    def test_kinds_that_are_written_unlike_with_the_same_values(self):
        for state in (says, hears):
            one = state(1, ("a", ("row", DIGIT, 0), 1))
            other = state(1, ("a", ("row", SIDE, 0), 1))
            self.stand((one, END), (other, END))
            self.stand((other, END), (one, END))

    def test_only_one_of_several_words_has_a_kind_that_does_not_fit(self):
        narrow = (("a", DIGIT, 1), ("b", DIGIT, 1), ("c", DIGIT, 1))
        for spot in range(3):
            wide = list(narrow)
            wide[spot] = (narrow[spot][0], ("number", 0, 10), 1)
            self.do_not_stand((says(1, *wide), END), (says(1, *narrow), END), ())
            self.stand((hears(1, *wide), END), (hears(1, *narrow), END))
            self.do_not_stand((hears(1, *narrow), END), (hears(1, *wide), END), ())

    def test_the_kind_of_a_word_that_only_one_has(self):
        self.stand((says(1, ("a", 1)), END), (says(1, ("a", 1), ("b", DIGIT, 1)), END))
        self.stand((hears(1, ("a", 1), ("b", DIGIT, 1)), END), (hears(1, ("a", 1)), END))

    def test_many_kinds(self):
        kinds = small_kinds()[::3]
        for one in kinds:
            for other in kinds[::4]:
                within = lies_within(one, other)
                self.assertIs(stands((says(1, ("a", one, 1)), END), (says(1, ("a", other, 1)), END)), within)
                self.assertIs(stands((hears(1, ("a", other, 1)), END), (hears(1, ("a", one, 1)), END)), within)


class Clash(StandingCase):
    def test_behind_words(self):
        part = (says(1, ("a", 1)), hears(1, ("b", 2)), says(1, ("c", 3)), END)
        self.stand(part, part)
        self.do_not_stand(part[:1] + (says(1, ("b", 2)),) + part[2:], part, ("a",))
        self.do_not_stand(part[:2] + (says(2, ("c", 3)),) + part[3:], part, ("a", "b"))
        self.do_not_stand(part[:3] + (hears(1, ("d", 3)),), part, ("a", "b", "c"))
        self.do_not_stand(part, part[:3] + (hears(1, ("d", 3)),), ("a", "b", "c"))

    def test_one_of_several_words_leads_to_it(self):
        other = (hears(1, ("a", 1), ("b", 1), ("c", 1)), END)
        part = (hears(1, ("a", 1), ("b", 2), ("c", 1)), END, says(1, ("d", 1)))
        self.do_not_stand(part, other, ("b",))
        self.do_not_stand(other, part, ("b",))

    def test_several_clashes(self):
        other = (hears(1, ("a", 1), ("b", 1), ("c", 1)), END)
        part = (hears(1, ("a", 2), ("b", 1), ("c", 2)), END, says(1, ("d", 1)))
        self.do_not_stand(part, other, ("a",), ("c",))

    def test_what_lies_behind_words_that_only_one_has(self):
        part = (hears(1, ("a", 1), ("b", 2)), END, says(2, ("x", 2)))
        self.stand(part, (hears(1, ("a", 1)), END))
        self.stand((says(1, ("a", 1)), END), (says(1, ("a", 1), ("b", 2)), END, hears(3, ("x", 2))))

    def test_states_to_which_one_does_not_come(self):
        part = (says(1, ("a", 1)), END)
        self.stand(part + (says(2, ("x", 0)),), part)
        self.stand(part, part + (hears(2, ("x", 0)), says(1, ("b", 2))))

    def test_states_in_another_order(self):
        part = (says(1, ("a", 1), ("b", 2)), hears(1, ("c", 3)), hears(2, ("d", 3)), END)
        other = (says(1, ("a", 3), ("b", 1)), hears(2, ("d", 2)), END, hears(1, ("c", 2)))
        self.stand(part, other)
        self.stand(other, part)
        wrong = (says(1, ("a", 1), ("b", 3)), hears(2, ("d", 2)), END, hears(1, ("c", 2)))
        self.do_not_stand(part, wrong, ("a",), ("b",))

    def test_states_that_come_back(self):
        loop = (says(1, ("a", 0), ("b", 1)), END)
        longer = (says(1, ("a", 1), ("b", 2)), says(1, ("a", 0), ("b", 2)), END)
        self.stand(loop, longer)
        self.stand(longer, loop)
        self.stand((says(1, ("a", 0)),), longer)
        self.do_not_stand(longer, (says(1, ("a", 1), ("b", 2)), says(1, ("a", 0)), END), ("a",))

    def test_loops_of_unlike_length(self):
        # Of loops of three and of five states all fifteen pairs are come to; the last pair of all doesn't fit.
        def loop(length, last):
            return tuple(hears(1, ("a", (number + 1) % length)) for number in range(length - 1)) + (last,)
        self.stand(loop(3, hears(1, ("a", 0))), loop(5, hears(1, ("a", 0))))
        part = loop(3, hears(1, ("a", DIGIT, 0), ("b", DIGIT, 0)))
        other = loop(5, hears(1, ("a", 0)))
        self.do_not_stand(part, other, ("a",) * 2)
        wider_one = tuple(hears(1, ("a", (number + 1) % 3), ("b", 0)) for number in range(3))
        self.stand(wider_one, other)
        part = wider_one[:2] + (hears(1, ("a", 0)),)
        other = other[:4] + (hears(1, ("a", 0), ("b", 0)),)
        self.do_not_stand(part, other, ("a",) * 14)

    def test_long_parts(self):
        part = tuple(says(1, ("a", number + 1)) for number in range(1500)) + (END,)
        self.stand(part, part)
        self.do_not_stand(part[:-1] + (hears(1, ("a", 0)),), part, ("a",) * 1500)

    def test_a_part_stands_for_itself(self):
        for grammar in made_grammars()[::5]:
            if is_fair(grammar):
                for part in parts_of(grammar):
                    self.stand(part, part)

    def test_lesser_parts_stand(self):
        dice = Dice(301)
        for grammar in fair_grammars():
            for part in parts_of(grammar):
                self.stand(reordered(dice, part), part)
                self.stand(part, doubled(dice, part))
                less = lesser(dice, part)
                self.stand(less, part)
                self.stand(lesser(dice, less), part)

    def test_many_pairs(self):
        dice = Dice(307)
        told = {True: 0, False: 0}
        lengths = set()
        for grammar in fair_grammars():
            for part in parts_of(grammar):
                for other in (lesser(dice, part), spoiled(dice, part), spoiled(dice, lesser(dice, part))):
                    for one, two in ((other, part), (part, other)):
                        clashes = self.told_rightly(one, two)
                        told[clashes is None] += 1
                        lengths.add(len(clashes or ()))
                self.told_rightly(part, dice.one_of(parts_of(dice.one_of(fair_grammars()))))
        self.assertGreater(min(told.values()), 300)
        self.assertGreater(len(lengths), 4)

    def test_the_same_is_told_again_and_nothing_is_changed(self):
        dice = Dice(311)
        for grammar in fair_grammars()[::6]:
            for part in parts_of(grammar):
                given = (spoiled(dice, part), part)
                kept = copy.deepcopy(given)
                told = clash(*given)
                self.assertTrue(is_plain(told))
                self.assertEqual(clash(*copy.deepcopy(given)), told)
                self.assertEqual(given, kept)


class HallCase(unittest.TestCase):
    def goes_by(self, dice, grammar, parts, rounds):
        """Goes through a talk, with all that is told of it, and the way of it."""
        hall = hall_with(grammar, parts)
        written = Written([part or own for part, own in zip(parts, parts_of(grammar))])
        for round_number in range(rounds):
            self.assertEqual(all_told(hall, grammar[0]), written.told())
            if hall.is_over():
                break
            self.assertTrue(hall.can(), (grammar, parts))
            move = made_move(dice, hall, written.parts)
            self.assertEqual(do(hall, move), written.do(move))
        self.way_is_right(grammar, hall)
        return hall

    def way_is_right(self, grammar, hall):
        way = way_of(hall)
        self.assertIsNotNone(place_of(grammar, way))
        logs = tuple(hall.done(hand) for hand in range(grammar[0]))
        for hand, log in enumerate(logs):
            self.assertEqual(done_on(grammar, hand, way)[:len(log)], log)
        self.assertEqual(judge(grammar, logs)[0], "way")

    def refuses(self, refusal, grammar, parts):
        with self.assertRaises(refusal) as taken:
            hall_with(grammar, parts)
        self.assertIs(type(taken.exception), refusal)
        self.assertIsInstance(taken.exception, TalkError)


class HallWith(HallCase):
    def test_none_for_each_hand(self):
        dice = Dice(313)
        for grammar in fair_grammars()[::3]:
            hall = hall_with(grammar, (None,) * grammar[0])
            self.assertIsInstance(hall, Hall)
            self.assertEqual(all_told(hall, grammar[0]), all_told(Hall(grammar), grammar[0]))
            self.goes_by(dice, grammar, (None,) * grammar[0], 20)

    def test_their_own_parts(self):
        dice = Dice(317)
        for grammar in fair_grammars()[::3]:
            parts = tuple(part_of(grammar, hand) for hand in range(grammar[0]))
            self.goes_by(dice, grammar, parts, 20)
            for hand in range(grammar[0]):
                alone = (None,) * hand + (parts[hand],) + (None,) * (grammar[0] - hand - 1)
                self.goes_by(dice, grammar, alone, 9)

    def test_fewer_words(self):
        part = (says(1, ("end", 1)), END)
        hall = hall_with(BIDS, (part, None, None))
        self.assertEqual(hall.can(), (("say", 0, "end"),))
        with self.assertRaises(NoMove):
            hall.say(0, "bid", 3)
        self.assertEqual(all_told(hall, 3), all_told(hall_with(BIDS, (part, None, None)), 3))
        hall.say(0, "end", None)
        self.assertEqual(hall.state(0), 1)
        self.assertEqual(hall.hear(1), (0, "end", None))
        self.assertEqual(hall.can(), (("say", 1, "few"), ("say", 1, "man")))
        hall.say(1, "man", 7)
        self.assertEqual(hall.hear(2), (1, "man", 7))
        self.assertIs(hall.is_over(), True)
        self.assertEqual(way_of(hall), (("end", None), ("man", 7)))

    def test_narrower_and_wider_kinds(self):
        bidder = (
            says(1, ("bid", ("number", 4, 5), 1), ("end", 2)), hears(1, ("no", 0), ("yes", ("row", DIGIT, 1), 0)), END,
        )
        self.refuses(NoStand, BIDS, (bidder, None, None))
        bidder = (
            says(1, ("bid", ("number", 4, 5), 1), ("end", 2)),
            hears(1, ("no", 0), ("yes", ("name", ("lef", "mid", "rig")), 0)), END,
        )
        hall = hall_with(BIDS, (bidder, None, None))
        for value in (3, 6, None, True, "4"):
            with self.assertRaises(NoMove):
                hall.say(0, "bid", value)
        hall.say(0, "bid", 4)
        hall.hear(1)
        # What the other hand says goes by its own part.
        with self.assertRaises(NoMove):
            hall.say(1, "yes", "mid")
        hall.say(1, "yes", "rig")
        self.assertEqual(hall.hear(0), (1, "yes", "rig"))
        self.assertEqual(hall.done(0), (("says", 1, "bid", 4), ("hears", 1, "yes", "rig")))
        self.assertEqual(hall.state(0), 0)

    def test_states_are_those_of_the_part(self):
        # It bids twice, and its states stand in another order.
        part = (
            says(1, ("bid", DIGIT, 4)), END, hears(1, ("no", 3), ("or", 1), ("yes", SIDE, 3)), says(1, ("end", 1)),
            hears(1, ("no", 5), ("yes", SIDE, 3)), says(1, ("bid", DIGIT, 2)),
        )
        hall = hall_with(BIDS, (part, None, None))
        seen = [hall.state(0)]
        for answer in ("no", "no"):
            hall.say(0, "bid", 9)
            seen.append(hall.state(0))
            hall.hear(1)
            hall.say(1, answer, None)
            hall.hear(0)
            seen.append(hall.state(0))
        self.assertEqual(hall.can(), (("say", 0, "end"),))
        hall.say(0, "end", None)
        self.assertEqual(seen + [hall.state(0)], [0, 4, 5, 2, 3, 1])
        self.assertIs(hall.is_over(), False)
        self.assertEqual([hall.state(hand) for hand in (1, 2)], [0, 0])

    def test_a_part_that_never_comes_to_an_end(self):
        hall = hall_with(BIDS, ((says(1, ("bid", DIGIT, 1)), hears(1, ("no", 0), ("yes", SIDE, 0))), None, None))
        for round_number in range(30):
            hall.say(0, "bid", round_number % 10)
            hall.hear(1)
            hall.say(1, "no", None)
            hall.hear(0)
        self.assertEqual(hall.can(), (("say", 0, "bid"),))
        self.assertIs(hall.is_over(), False)
        self.way_is_right(BIDS, hall)

    def test_each_hand(self):
        dice = Dice(331)
        for grammar in fair_grammars():
            for hand, own in enumerate(parts_of(grammar)):
                parts = (None,) * hand + (lesser(dice, own),) + (None,) * (grammar[0] - hand - 1)
                self.goes_by(dice, grammar, parts, 25)

    def test_all_hands(self):
        dice = Dice(337)
        for grammar in fair_grammars():
            for round_number in range(3):
                parts = tuple(dice.one_of((None, lesser(dice, own), lesser(dice, own))) for own in parts_of(grammar))
                self.goes_by(dice, grammar, parts, 40)

    def test_refusals_are_as_in_other_halls(self):
        part = (says(1, ("end", 1)), END)
        hall = hall_with(BIDS, (part, None, None))
        before = all_told(hall, 3)
        calls = (
            (hall.say, (1, "few", None)), (hall.say, (0, "few", None)), (hall.say, (3, "end", None)), (hall.hear, (0,)),
            (hall.hear, (1,)), (hall.hear, (2,)), (hall.hear, (-1,)), (hall.state, (3,)), (hall.done, (-1,)),
            (hall.under_way, (0, 3)), (hall.under_way, (-1, 0)),
        )
        for method, given in calls:
            with self.assertRaises(NoMove) as taken:
                method(*given)
            self.assertIs(type(taken.exception), NoMove)
            self.assertEqual(all_told(hall, 3), before)

    def test_halls_do_not_share_anything(self):
        part = (says(1, ("end", 1)), END)
        hall = hall_with(BIDS, (part, None, None))
        other = hall_with(BIDS, (part, None, None))
        hall.say(0, "end", None)
        self.assertEqual(all_told(other, 3), all_told(hall_with(BIDS, (part, None, None)), 3))
        self.assertEqual(Hall(BIDS).can(), (("say", 0, "bid"), ("say", 0, "end")))

    def test_greater_grammars(self):
        dice = Dice(347)
        grammar = again(asked((MARKET,) * 12, 2, tuple("abcdefghijkl")), 1, "mor", "sto")
        self.assertGreater(len(grammar[1]), 60)
        parts = tuple(lesser(dice, part) for part in parts_of(grammar))
        for round_number in range(5):
            self.goes_by(dice, grammar, parts, 80)
        self.goes_by(dice, chain(120), (None, None), 300)

    def test_other_numbers_change_nothing(self):
        dice = Dice(349)
        for grammar in fair_grammars()[::3]:
            hands = made_numbers(dice, grammar[0])
            told = renamed(grammar, hands, made_numbers(dice, len(grammar[1]), fixed=1))
            parts = [lesser(dice, own) for own in parts_of(grammar)]
            other_parts = [None] * grammar[0]
            for hand, part in enumerate(parts):
                states = [state if state == END else (state[0], hands[state[1]], state[2]) for state in part]
                other_parts[hands[hand]] = tuple(states)
            hall = hall_with(grammar, tuple(parts))
            other = hall_with(told, tuple(other_parts))
            for round_number in range(15):
                if not hall.is_over():
                    move = made_move(dice, hall, parts)
                    do(hall, move)
                    do(other, (move[0], hands[move[1]]) + move[2:])
            for hand in range(grammar[0]):
                self.assertEqual(other.state(hands[hand]), hall.state(hand))
            self.assertEqual(way_of(other), way_of(hall))


class Refusals(HallCase):
    def test_a_part_that_does_not_stand(self):
        wrong = (
            (END,), (says(1, ("bid", DIGIT, 0), ("sto", 1)), END), (hears(1, ("bid", DIGIT, 0)),),
            (says(2, ("end", 1)), END), (says(1, ("bid", ("number", 0, 10), 0), ("end", 1)), END),
            (says(1, ("bid", DIGIT, 1), ("end", 2)), hears(1, ("no", 0)), END),
            (says(1, ("bid", DIGIT, 1), ("end", 2)), says(1, ("bid", DIGIT, 0)), END),
            (says(1, ("end", 0)),),
        )
        for part in wrong:
            self.refuses(NoStand, BIDS, (part, None, None))

    def test_whichever_hand_it_is(self):
        dice = Dice(353)
        for grammar in fair_grammars():
            own = parts_of(grammar)
            for hand in range(grammar[0]):
                bad = END if own[hand][0] != END else says(0, ("a", 0))
                parts = list(own)
                parts[hand] = (bad,)
                self.refuses(NoStand, grammar, tuple(parts))
                parts = [None] * grammar[0]
                parts[hand] = (bad,)
                self.refuses(NoStand, grammar, tuple(parts))
                parts = [lesser(dice, part) for part in own]
                parts[hand] = (bad,)
                self.refuses(NoStand, grammar, tuple(parts))

    def test_parts_of_other_hands(self):
        own = parts_of(MARKET)
        self.refuses(NoStand, MARKET, (own[1], own[0], own[2]))
        self.refuses(NoStand, MARKET, (own[0], own[2], own[1]))

    def test_refused_or_told(self):
        dice = Dice(359)
        refused = 0
        for grammar in fair_grammars():
            own = parts_of(grammar)
            for round_number in range(4):
                parts = tuple(dice.one_of((None, part, spoiled(dice, part))) for part in own)
                good = all(
                    part is None or all(fit(part[one], mine[two]) for one, two in common_pairs(part, mine))
                    for part, mine in zip(parts, own)
                )
                if good:
                    self.goes_by(dice, grammar, parts, 12)
                else:
                    refused += 1
                    self.refuses(NoStand, grammar, parts)
        self.assertGreater(refused, 100)

    def test_no_part_of_a_grammar_that_is_not_fair(self):
        self.refuses(NoPart, TRADE, (None, None, None))
        self.refuses(NoPart, TRADE, (part_of(TRADE, 0), part_of(TRADE, 1), None))
        # Ahead of any part that doesn't stand.
        self.refuses(NoPart, TRADE, ((END,), (END,), (END,)))
        refused = 0
        for grammar in made_grammars()[::3]:
            if not is_fair(grammar):
                refused += 1
                self.refuses(NoPart, grammar, (None,) * grammar[0])
        self.assertGreater(refused, 50)


class AllThatIsTold(HallCase):
    def test_nothing_is_changed(self):
        dice = Dice(367)
        for grammar in fair_grammars()[::8]:
            parts = tuple(lesser(dice, own) for own in parts_of(grammar))
            given = (grammar, parts)
            kept = copy.deepcopy(given)
            hall = self.goes_by(dice, grammar, parts, 15)
            self.assertEqual(given, kept)
            self.assertTrue(is_plain(all_told(hall, grammar[0])))
            self.assertTrue(is_plain(way_of(hall)))

    def test_a_way_that_the_parts_let_can_be_gone(self):
        dice = Dice(373)
        gone = 0
        for grammar in fair_grammars():
            parts = tuple(doubled(dice, own) for own in parts_of(grammar))
            way = made_way(dice, grammar, 12)
            hall = hall_with(grammar, parts)
            left = [moves_on(grammar, hand, way) for hand in range(grammar[0])]
            while any(left):
                ready = [moves for moves in left if moves and moves[0][:3] in hall.can()]
                self.assertTrue(ready)
                do(hall, dice.one_of(ready).pop(0))
                gone += 1
            for hand in range(grammar[0]):
                self.assertEqual(hall.done(hand), done_on(grammar, hand, way))
        self.assertGreater(gone, 500)


if __name__ == "__main__":
    unittest.main()
