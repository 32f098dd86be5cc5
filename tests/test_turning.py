"""Points 8.1 to 8.3, and 0.2 (f)."""

import copy
import unittest
from functools import lru_cache

from helper import (
    DIGIT, END, MARKET, NONE, SIDE, TRADE, Dice, all_told, chain, do, fair_grammars, is_fair_by_sets, is_plain, lesser,
    made_grammars, made_move, made_numbers, made_way, moves_on, parts_of, say, with_choices, with_place,
)
from parleyturn.errors import NoOffer, NoPart, NotYet, TalkError
from parleyturn.grammars import done_on, is_grammar, place_of, renamed
from parleyturn.halls import Hall
from parleyturn.joining import again, asked
from parleyturn.standing import hall_with
from parleyturn.turning import lead_over, offer, settled
from parleyturn.ways import way_of

# Hand 0 asks hand 1, which answers, until hand 0 has enough.
TALK = (2, (say(0, 1, ("ask", DIGIT, 1), ("bye", 2)), say(1, 0, ("no", 0), ("yes", SIDE, 0)), END))
# Hand 1 counts for hand 0, as far as it likes.
COUNTING = (2, (say(1, 0, ("n", DIGIT, 0), ("sto", 1)), END))
# Hand 0 bids for hand 1, which answers, and tells hand 2 how it ended.
BIDS = (3, (
    say(0, 1, ("bid", DIGIT, 1), ("end", 2)), say(1, 0, ("no", 0), ("yes", SIDE, 0)),
    say(1, 2, ("few", 3), ("man", DIGIT, 3)), END,
))
# Hand 2 says something to hand 0, which says it on to hand 1.
RING = (3, (say(2, 0, ("x", DIGIT, 1)), say(0, 1, ("y", DIGIT, 2)), END))


def says_at(grammar):
    return tuple(number for number, place in enumerate(grammar[1]) if place != END)


def offer_by_name(grammar, newer, places, word):
    """The grammar of 8.1, its places written by names first, which are numbered in the order that is told."""
    written = {("older", number): place for number, place in enumerate(grammar[1])}
    written = {name: named(place, "older") for name, place in written.items()}
    for number in places:
        one, other = grammar[1][number][1:3]
        names = [("on", number, third) for third in range(grammar[0]) if third not in (one, other)]
        nexts = names[1:] + [("newer", 0)]
        for name, following in zip(names, nexts):
            written[name] = ("say", one, name[2], ((word, NONE, following),))
        choices = written["older", number][3] + ((word, NONE, (names + nexts)[0]),)
        written["older", number] = ("say", one, other, tuple(sorted(choices, key=lambda choice: choice[0])))
    written.update({("newer", number): named(place, "newer") for number, place in enumerate(newer[1])})
    order = list(written)
    told = []
    for place in written.values():
        if place != END:
            place = place[:3] + (tuple((word, kind, order.index(to)) for word, kind, to in place[3]),)
        told.append(place)
    return (grammar[0], tuple(told))


def named(place, which):
    if place == END:
        return END
    return place[:3] + (tuple((word, kind, (which, to)) for word, kind, to in place[3]),)


@lru_cache(maxsize=None)
def fair_offers():
    """Tuples (grammar, newer, places, word) of which a fair grammar comes."""
    dice = Dice(401)
    offers = [(TALK, COUNTING, (0, 1), "new"), (BIDS, RING, (1,), "new")]
    counts = {2: 0, 3: 0, 4: 0}
    while min(counts.values()) < 40:
        grammar = dice.one_of(fair_grammars())
        hands = grammar[0]
        if dice.below(2):
            grammar = again(grammar, dice.below(hands), "b", "d")
        newer = dice.one_of([other for other in fair_grammars() if other[0] == hands])
        places = tuple(sorted({dice.one_of(says_at(grammar)) for count in range(1 + dice.below(3))}))
        word = dice.one_of("abcdk")
        taken = any(word in [choice[0] for choice in grammar[1][number][3]] for number in places)
        if counts[hands] < 60 and not taken and is_fair_by_sets(grammar):
            if is_fair_by_sets(offer_by_name(grammar, newer, places, word)):
                counts[hands] += 1
                offers.append((grammar, newer, places, word))
    return tuple(offers)


def gone_on(dice, hall, parts, moves, wanted=None):
    """Does some moves in a hall, such as are wanted rather than others, and tells them."""
    done = []
    for round_number in range(moves):
        if hall.is_over():
            break
        move = made_move(dice, hall, parts)
        chosen = [move for move in hall.can() if move[2:] == (wanted,)]
        if chosen and dice.below(2):
            kinds = {word: kind for word, kind, state in parts[chosen[0][1]][hall.state(chosen[0][1])][2]}
            if kinds[wanted] == NONE:
                move = chosen[0] + (None,)
        do(hall, move)
        done.append(move)
    return done


def replayed(grammar, logs):
    """A hall of a grammar in which each hand does what its log says."""
    hall = Hall(grammar)
    left = [list(log) for log in logs]
    while any(left):
        before = sum(map(len, left))
        for hand, log in enumerate(left):
            while log and (log[0][0] == "says" or ("hear", hand) in hall.can()):
                doing = log.pop(0)
                if doing[0] == "says":
                    hall.say(hand, *doing[2:])
                elif hall.hear(hand) != doing[1:]:
                    raise AssertionError("another word came")
        if sum(map(len, left)) == before:
            raise AssertionError("a hand can't do what its log says")
    return hall


class TurningCase(unittest.TestCase):
    def refuses(self, refusal, function, *given):
        with self.assertRaises(refusal) as taken:
            function(*given)
        self.assertIs(type(taken.exception), refusal)
        self.assertIsInstance(taken.exception, TalkError)


class Offer(TurningCase):
    def test_one_place_of_two_hands(self):
        self.assertEqual(offer(TALK, COUNTING, (0,), "new"), (2, (
            say(0, 1, ("ask", DIGIT, 1), ("bye", 2), ("new", 3)), say(1, 0, ("no", 0), ("yes", SIDE, 0)), END,
            say(1, 0, ("n", DIGIT, 3), ("sto", 4)), END,
        )))

    def test_all_places_of_two_hands(self):
        self.assertEqual(offer(TALK, COUNTING, (0, 1), "new"), (2, (
            say(0, 1, ("ask", DIGIT, 1), ("bye", 2), ("new", 3)), say(1, 0, ("new", 3), ("no", 0), ("yes", SIDE, 0)),
            END,
            say(1, 0, ("n", DIGIT, 3), ("sto", 4)), END,
        )))

    def test_no_place(self):
        self.assertEqual(offer(TALK, COUNTING, (), "new"), (2, TALK[1] + (say(1, 0, ("n", DIGIT, 3), ("sto", 4)), END)))
        for grammar in (TALK, BIDS, MARKET, (3, (END,)), (2, (END,))):
            told = offer(grammar, grammar, (), "new")
            self.assertEqual(told, offer_by_name(grammar, grammar, (), "new"))
            self.assertEqual(told[1][:len(grammar[1])], grammar[1])

    def test_each_of_three_hands_says_it_on(self):
        for one in range(3):
            for other in range(3):
                if one != other:
                    third = 3 - one - other
                    grammar = (3, (say(one, other, ("k", 1)), END))
                    self.assertEqual(offer(grammar, RING, (0,), "new"), (3, (
                        say(one, other, ("k", 1), ("new", 2)), END, say(one, third, ("new", 3)),
                        say(2, 0, ("x", DIGIT, 4)), say(0, 1, ("y", DIGIT, 5)), END,
                    )))

    def test_each_of_four_hands_says_it_on(self):
        for one in range(4):
            for other in range(4):
                if one != other:
                    low, high = [hand for hand in range(4) if hand not in (one, other)]
                    grammar = (4, (END, say(one, other, ("k", 0))))
                    self.assertEqual(offer(grammar, (4, (END,)), (1,), "new"), (4, (
                        END, say(one, other, ("k", 0), ("new", 2)), say(one, low, ("new", 3)),
                        say(one, high, ("new", 4)), END,
                    )))

    def test_several_places_of_three_hands(self):
        self.assertEqual(offer(BIDS, RING, (0, 1, 2), "new"), (3, (
            say(0, 1, ("bid", DIGIT, 1), ("end", 2), ("new", 4)), say(1, 0, ("new", 5), ("no", 0), ("yes", SIDE, 0)),
            say(1, 2, ("few", 3), ("man", DIGIT, 3), ("new", 6)), END,
            say(0, 2, ("new", 7)), say(1, 2, ("new", 7)), say(1, 0, ("new", 7)),
            say(2, 0, ("x", DIGIT, 8)), say(0, 1, ("y", DIGIT, 9)), END,
        )))

    def test_several_places_of_four_hands(self):
        grammar = (4, (say(0, 1, ("a", 1)), say(1, 2, ("a", 2)), say(3, 2, ("a", 3)), END))
        self.assertEqual(offer(grammar, (4, (END,)), (0, 2), "b"), (4, (
            say(0, 1, ("a", 1), ("b", 4)), say(1, 2, ("a", 2)), say(3, 2, ("a", 3), ("b", 6)), END,
            say(0, 2, ("b", 5)), say(0, 3, ("b", 8)), say(3, 0, ("b", 7)), say(3, 1, ("b", 8)), END,
        )))

    def test_choices_rise(self):
        grammar = (2, (say(0, 1, ("b", DIGIT, 1), ("d", SIDE, 1)), END))
        for word, spot in (("a", 0), ("c", 1), ("e", 2), ("bb", 1), ("da", 2)):
            choices = offer(grammar, grammar, (0,), word)[1][0][3]
            self.assertEqual(choices[spot], (word, NONE, 2))
            self.assertEqual(choices[:spot] + choices[spot + 1:], grammar[1][0][3])

    def test_more_than_five_choices(self):
        grammar = (2, (say(0, 1, *[(word, 1) for word in "abcdf"]), END))
        told = offer(grammar, grammar, (0,), "e")
        self.assertEqual([choice[0] for choice in told[1][0][3]], list("abcdef"))
        self.assertIs(is_grammar(told), False)
        self.assertIs(is_grammar(offer(TALK, COUNTING, (0,), "new")), True)

    def test_more_than_sixty_places(self):
        told = offer(chain(100), chain(80), tuple(range(99)), "new")
        self.assertEqual(told, offer_by_name(chain(100), chain(80), tuple(range(99)), "new"))
        self.assertEqual(len(told[1]), 180)
        told = offer(chain(50, hands=4), chain(3, hands=4), tuple(range(49)), "new")
        self.assertEqual(len(told[1]), 50 + 98 + 3)
        self.assertEqual(told, offer_by_name(chain(50, hands=4), chain(3, hands=4), tuple(range(49)), "new"))

    def test_the_newer_grammar_ends_at_once(self):
        self.assertEqual(offer(TALK, (2, (END,)), (1,), "end"), (2, (
            TALK[1][0], say(1, 0, ("end", 3), ("no", 0), ("yes", SIDE, 0)), END, END,
        )))

    def test_places_to_which_one_does_not_come(self):
        grammar = (2, (END, say(0, 1, ("a", 1))))
        self.assertEqual(offer(grammar, grammar, (1,), "b"), (2, (
            END, say(0, 1, ("a", 1), ("b", 2)), END, say(0, 1, ("a", 3)),
        )))

    def test_many(self):
        dice = Dice(409)
        seen = set()
        for grammar in made_grammars():
            newer = dice.one_of([other for other in made_grammars() if other[0] == grammar[0]])
            places = tuple(number for number in says_at(grammar) if dice.below(2))
            told = offer(grammar, newer, places, "bd")
            self.assertEqual(told, offer_by_name(grammar, newer, places, "bd"))
            seen.add((grammar[0], min(len(places), 3)))
        self.assertEqual(len(seen), 12)

    def test_ways(self):
        # A way of the grammar, the word that is offered, said to all, and then a way of the newer one.
        dice = Dice(419)
        for grammar, newer, places, word in fair_offers():
            told = offer(grammar, newer, places, word)
            for round_number in range(3):
                way = made_way(dice, grammar, 6)
                self.assertEqual(place_of(told, way), place_of(grammar, way))
                if place_of(grammar, way) in places:
                    since = made_way(dice, newer, 5)
                    whole = way + ((word, None),) * (grammar[0] - 1) + since
                    self.assertEqual(place_of(told, whole), len(told[1]) - len(newer[1]) + place_of(newer, since))

    def test_other_numbers_of_places_change_nothing(self):
        # Hands are said to in their order, so places alone have other numbers.
        dice = Dice(421)
        for grammar, newer, places, word in fair_offers()[::2]:
            hands = tuple(range(grammar[0]))
            numbers = made_numbers(dice, len(grammar[1]), fixed=1)
            other = renamed(grammar, hands, numbers)
            one = offer(grammar, newer, places, word)
            two = offer(other, newer, tuple(sorted(numbers[number] for number in places)), word)
            self.assertEqual(
                [[choice[:2] for choice in one[1][number][3]] for number in places],
                [[choice[:2] for choice in two[1][numbers[number]][3]] for number in places],
            )
            self.assertEqual(parts_of(one), parts_of(two))


class OfferRefusals(TurningCase):
    def test_hands_are_not_as_many(self):
        self.refuses(NoOffer, offer, TALK, RING, (0,), "new")
        self.refuses(NoOffer, offer, RING, TALK, (0,), "new")
        self.refuses(NoOffer, offer, RING, TALK, (), "new")
        self.refuses(NoOffer, offer, (3, (END,)), (4, (END,)), (), "new")

    def test_an_end(self):
        self.refuses(NoOffer, offer, TALK, COUNTING, (2,), "new")
        self.refuses(NoOffer, offer, TALK, COUNTING, (0, 2), "new")
        self.refuses(NoOffer, offer, (2, (END,)), COUNTING, (0,), "new")
        self.refuses(NoOffer, offer, (2, (END, TALK[1][0])), COUNTING, (0, 1), "new")

    def test_a_place_that_is_not_there(self):
        for number in (3, 4, 100, 10 ** 30):
            self.refuses(NoOffer, offer, TALK, COUNTING, (number,), "new")
            self.refuses(NoOffer, offer, TALK, COUNTING, (0, number), "new")
        for number in (-1, -2, -3, -100, -10 ** 30):
            self.refuses(NoOffer, offer, TALK, COUNTING, (number,), "new")
            self.refuses(NoOffer, offer, TALK, COUNTING, (number, 1), "new")

    def test_a_word_that_is_said_there_already(self):
        for number, words in ((0, ("ask", "bye")), (1, ("no", "yes"))):
            for word in words:
                self.refuses(NoOffer, offer, TALK, COUNTING, (number,), word)
                self.refuses(NoOffer, offer, TALK, COUNTING, (0, 1), word)

    def test_a_word_that_is_said_elsewhere_is_not_refused(self):
        for number, words in ((1, ("ask", "bye", "n", "sto")), (0, ("no", "yes", "n", "sto"))):
            for word in words:
                self.assertEqual(offer(TALK, COUNTING, (number,), word), offer_by_name(TALK, COUNTING, (number,), word))

    def test_told_or_refused(self):
        dice = Dice(431)
        refused = 0
        for grammar in made_grammars()[::2]:
            newer = dice.one_of(made_grammars())
            places = tuple(number for number in range(-1, len(grammar[1]) + 1) if dice.below(4) == 0)
            word = dice.one_of("abcdk")
            good = newer[0] == grammar[0] and all(
                0 <= number < len(grammar[1]) and grammar[1][number] != END
                and word not in [choice[0] for choice in grammar[1][number][3]] for number in places
            )
            if good:
                self.assertEqual(offer(grammar, newer, places, word), offer_by_name(grammar, newer, places, word))
            else:
                refused += 1
                self.refuses(NoOffer, offer, grammar, newer, places, word)
        self.assertGreater(refused, 100)


class LeadOver(TurningCase):
    def test_at_the_beginning(self):
        offered = offer(TALK, COUNTING, (0, 1), "new")
        hall = lead_over(Hall(TALK), offered)
        self.assertIsInstance(hall, Hall)
        self.assertEqual(all_told(hall, 2), all_told(Hall(offered), 2))
        self.assertEqual(hall.can(), (("say", 0, "ask"), ("say", 0, "bye"), ("say", 0, "new")))

    def test_with_letters_under_way(self):
        hall = Hall(BIDS)
        hall.say(0, "bid", 4)
        hall.hear(1)
        hall.say(1, "yes", "rig")
        before = all_told(hall, 3)
        led = lead_over(hall, offer(BIDS, RING, (1,), "new"))
        self.assertEqual(led.under_way(1, 0), (("yes", "rig"),))
        self.assertEqual(led.done(0), (("says", 1, "bid", 4),))
        self.assertEqual(led.done(1), (("hears", 0, "bid", 4), ("says", 0, "yes", "rig")))
        self.assertEqual(led.done(2), ())
        self.assertEqual(led.can(), (("hear", 0),))
        self.assertEqual(led.hear(0), (1, "yes", "rig"))
        led.say(0, "bid", 9)
        led.hear(1)
        self.assertEqual(led.can(), (("say", 1, "new"), ("say", 1, "no"), ("say", 1, "yes")))
        led.say(1, "new", None)
        self.assertEqual(led.can(), (("hear", 0), ("say", 1, "new")))
        led.say(1, "new", None)
        self.assertEqual(led.can(), (("hear", 0), ("hear", 2)))
        self.assertEqual(led.hear(2), (1, "new", None))
        self.assertEqual(led.hear(0), (1, "new", None))
        self.assertEqual(led.can(), (("say", 2, "x"),))
        led.say(2, "x", 3)
        self.assertEqual(led.hear(0), (2, "x", 3))
        # The hall stays, and goes on by itself.
        self.assertEqual(all_told(hall, 3), before)
        self.assertEqual(hall.hear(0), (1, "yes", "rig"))
        self.assertEqual(hall.can(), (("say", 0, "bid"), ("say", 0, "end")))

    def test_by_the_older_choices(self):
        hall = Hall(BIDS)
        hall.say(0, "end", None)
        led = lead_over(hall, offer(BIDS, RING, (1,), "new"))
        self.assertEqual(led.hear(1), (0, "end", None))
        self.assertEqual(led.can(), (("say", 1, "few"), ("say", 1, "man")))
        led.say(1, "man", 8)
        led.hear(2)
        self.assertIs(led.is_over(), True)
        self.assertEqual(hall.under_way(0, 1), (("end", None),))

    def test_over(self):
        hall = Hall(TALK)
        hall.say(0, "ask", 3)
        hall.hear(1)
        hall.say(1, "no", None)
        hall.hear(0)
        hall.say(0, "bye", None)
        hall.hear(1)
        self.assertIs(hall.is_over(), True)
        led = lead_over(hall, offer(TALK, COUNTING, (0, 1), "new"))
        self.assertIs(led.is_over(), True)
        self.assertEqual(led.can(), ())
        self.assertEqual([led.done(hand) for hand in (0, 1)], [hall.done(hand) for hand in (0, 1)])
        self.assertEqual(way_of(led), way_of(hall))

    def test_states_are_those_of_the_offered_grammar(self):
        # A word that stands ahead of the others shifts the numbers of states.
        offered = offer(TALK, COUNTING, (0,), "aa")
        hall = Hall(TALK)
        hall.say(0, "ask", 3)
        self.assertEqual(hall.state(0), 1)
        led = lead_over(hall, offered)
        self.assertEqual(led.state(0), parts_of(offered)[0][0][2][1][2])
        self.assertEqual(led.state(0), 2)
        self.assertEqual(led.state(1), 0)

    def test_a_grammar_without_more_choices(self):
        hall = Hall(BIDS)
        hall.say(0, "bid", 7)
        for offered in (BIDS, offer(BIDS, RING, (), "new"), (3, BIDS[1] + (END,))):
            self.assertEqual(all_told(lead_over(hall, offered), 3), all_told(hall, 3))

    def test_a_grammar_that_was_written_by_hand(self):
        hall = Hall(TALK)
        hall.say(0, "ask", 7)
        hall.hear(1)
        offered = (2, (
            TALK[1][0], say(1, 0, ("new", DIGIT, 3), ("no", 0), ("sto", 4), ("yes", SIDE, 0)), END, END, END,
        ))
        led = lead_over(hall, offered)
        self.assertEqual(led.can(), tuple(("say", 1, word) for word in ("new", "no", "sto", "yes")))
        led.say(1, "new", 3)
        self.assertEqual(led.hear(0), (1, "new", 3))
        self.assertIs(led.is_over(), True)

    def test_twice(self):
        once = offer(TALK, COUNTING, (0,), "new")
        twice = offer(once, TALK, (1, 3), "old")
        hall = Hall(TALK)
        hall.say(0, "ask", 7)
        led = lead_over(lead_over(hall, once), twice)
        self.assertEqual(all_told(led, 2), all_told(lead_over(hall, twice), 2))
        led.hear(1)
        led.say(1, "old", None)
        led.hear(0)
        self.assertEqual(led.can(), (("say", 0, "ask"), ("say", 0, "bye")))
        led = lead_over(hall, once)
        led.hear(1)
        led.say(1, "no", None)
        led.hear(0)
        led.say(0, "new", None)
        self.assertEqual(led.under_way(0, 1), (("new", None),))
        led = lead_over(led, twice)
        led.hear(1)
        self.assertEqual(led.can(), (("say", 1, "n"), ("say", 1, "old"), ("say", 1, "sto")))

    def test_the_halls_do_not_share_anything(self):
        hall = Hall(COUNTING)
        hall.say(1, "n", 1)
        led = lead_over(hall, offer(COUNTING, TALK, (0,), "new"))
        again_led = lead_over(hall, offer(COUNTING, TALK, (0,), "new"))
        before = all_told(led, 2)
        hall.say(1, "n", 2)
        hall.hear(0)
        self.assertEqual(all_told(led, 2), before)
        now = all_told(hall, 2)
        led.say(1, "new", None)
        led.hear(0)
        led.hear(0)
        self.assertEqual(all_told(hall, 2), now)
        self.assertEqual(all_told(again_led, 2), before)

    def test_a_hall_with_their_own_parts(self):
        hall = hall_with(TALK, (None, parts_of(TALK)[1]))
        hall.say(0, "ask", 7)
        offered = offer(TALK, COUNTING, (0, 1), "new")
        other = Hall(offered)
        other.say(0, "ask", 7)
        self.assertEqual(all_told(lead_over(hall, offered), 2), all_told(other, 2))

    def test_more_places_and_choices(self):
        grammar = (2, chain(90)[1][:-1] + (say(1, 0, *[(word, 90) for word in "abcdefgh"]), END))
        offered = offer(grammar, grammar, (0, 50, 89), "new")
        hall = Hall(grammar)
        other = Hall(offered)
        for number in range(89):
            hall.say(0, "on", None)
            other.say(0, "on", None)
        for number in range(89):
            hall.hear(1)
            other.hear(1)
        led = lead_over(hall, offered)
        self.assertEqual(all_told(led, 2), all_told(other, 2))
        self.assertEqual(led.can(), tuple(("say", 1, word) for word in ("a", "b", "c", "d", "e", "f", "g", "h", "new")))

    def test_as_if_it_had_been_one_from_the_beginning(self):
        dice = Dice(433)
        for grammar, newer, places, word in fair_offers():
            offered = offer(grammar, newer, places, word)
            parts = parts_of(offered)
            for length in (0, 4, 9, 20):
                hall = Hall(grammar)
                moves = gone_on(dice, hall, parts_of(grammar), length)
                other = Hall(offered)
                for move in moves:
                    do(other, move)
                before = all_told(hall, grammar[0])
                led = lead_over(hall, offered)
                self.assertEqual(all_told(led, grammar[0]), all_told(other, grammar[0]))
                for move in gone_on(dice, led, parts, 12, word):
                    do(other, move)
                self.assertEqual(all_told(led, grammar[0]), all_told(other, grammar[0]))
                self.assertEqual(way_of(led), way_of(other))
                self.assertEqual(all_told(hall, grammar[0]), before)

    def test_it_never_sticks(self):
        dice = Dice(439)
        for grammar, newer, places, word in fair_offers():
            offered = offer(grammar, newer, places, word)
            hall = Hall(grammar)
            gone_on(dice, hall, parts_of(grammar), dice.below(10))
            led = lead_over(hall, offered)
            parts = parts_of(offered)
            for round_number in range(30):
                self.assertTrue(led.is_over() or led.can())
                gone_on(dice, led, parts, 1, word)
            way = way_of(led)
            self.assertIsNotNone(place_of(offered, way))
            for hand in range(grammar[0]):
                done = led.done(hand)
                self.assertEqual(done_on(offered, hand, way)[:len(done)], done)


class LeadOverRefusals(TurningCase):
    def test_places_are_not_the_first_ones(self):
        offered = offer(TALK, COUNTING, (0, 1), "new")
        places = offered[1]
        for first in (COUNTING[1], places[1:], places[:2], (END,), (places[3],) + places, TALK[1][:2]):
            self.refuses(NoOffer, lead_over, Hall(TALK), (2, first))
        last = len(places) - 1
        self.refuses(NoOffer, lead_over, Hall(TALK), renamed(offered, (0, 1), (0, 2, 1) + tuple(range(3, last + 1))))
        self.refuses(NoOffer, lead_over, Hall(TALK), renamed(offered, (1, 0), tuple(range(last + 1))))

    def test_hands_are_not_as_many(self):
        self.refuses(NoOffer, lead_over, Hall(TALK), (3, offer(TALK, COUNTING, (0, 1), "new")[1]))
        self.refuses(NoOffer, lead_over, Hall(TALK), (3, TALK[1]))

    def test_an_end_that_is_none_any_more_and_one_that_is_new(self):
        offered = offer(TALK, COUNTING, (0, 1), "new")
        self.refuses(NoOffer, lead_over, Hall(TALK), with_place(offered, 2, say(0, 1, ("new", 3))))
        self.refuses(NoOffer, lead_over, Hall(TALK), with_place(offered, 0, END))
        self.refuses(NoOffer, lead_over, Hall((2, (END,))), COUNTING)

    def test_other_hands_say_it(self):
        offered = offer(TALK, COUNTING, (0,), "new")
        self.refuses(NoOffer, lead_over, Hall(TALK), with_place(offered, 1, say(0, 1, ("no", 0), ("yes", SIDE, 0))))
        offered = offer(BIDS, RING, (1,), "new")
        for one, other in ((0, 2), (2, 1), (1, 0)):
            place = ("say", one, other, offered[1][0][3])
            self.refuses(NoOffer, lead_over, Hall(BIDS), with_place(offered, 0, place))

    def test_choices_that_differ_or_are_missing(self):
        offered = offer(TALK, COUNTING, (0,), "new")
        changes = (
            say(0, 1, ("ask", DIGIT, 1), ("new", 3)), say(0, 1, ("bye", 2), ("new", 3)), say(0, 1, ("new", 3)),
            say(0, 1, ("ask", ("number", 0, 8), 1), ("bye", 2), ("new", 3)),
            say(0, 1, ("ask", ("number", 0, 10), 1), ("bye", 2)), say(0, 1, ("ask", 1), ("bye", 2), ("new", 3)),
            say(0, 1, ("ask", DIGIT, 2), ("bye", 2), ("new", 3)), say(0, 1, ("ask", DIGIT, 3), ("bye", 2)),
            say(0, 1, ("asl", DIGIT, 1), ("bye", 2), ("new", 3)), say(0, 1, ("ask", DIGIT, 1), ("bye", 4), ("new", 3)),
        )
        for place in changes:
            self.refuses(NoOffer, lead_over, Hall(TALK), with_place(offered, 0, place))

    def test_new_choices_that_lead_back(self):
        offered = offer(TALK, COUNTING, (0,), "new")
        for to in (0, 1, 2):
            choices = TALK[1][0][3] + (("new", NONE, to),)
            self.refuses(NoOffer, lead_over, Hall(TALK), with_choices(offered, 0, choices))
            self.refuses(NoOffer, lead_over, Hall(TALK), with_choices(offered, 0, choices + (("old", NONE, 3),)))
            self.refuses(NoOffer, lead_over, Hall(TALK), with_choices(TALK, 0, choices))
        # Beyond them places may lead back.
        told = with_place(offered, 3, say(1, 0, ("n", DIGIT, 0), ("sto", 4)))
        self.assertEqual(len(lead_over(Hall(TALK), told).can()), 3)

    def test_at_any_place(self):
        dice = Dice(443)
        for grammar, newer, places, word in fair_offers():
            offered = offer(grammar, newer, places, word)
            number = dice.one_of(says_at(grammar))
            choices = offered[1][number][3]
            older = grammar[1][number][3]
            hall = Hall(grammar)
            gone_on(dice, hall, parts_of(grammar), 5)
            before = all_told(hall, grammar[0])
            missing = [choice for choice in choices if choice != older[0]] or [("zz", NONE, len(grammar[1]))]
            for told in (missing, choices + (("zz", NONE, dice.below(len(grammar[1]))),)):
                self.refuses(NoOffer, lead_over, hall, with_choices(offered, number, told))
            self.refuses(NoOffer, lead_over, hall, with_place(offered, number, END))
            self.assertEqual(all_told(hall, grammar[0]), before)

    def test_no_part_where_it_is_not_fair(self):
        # Hand 2 hears from hand 1 how it ended, and would hear from hand 0 of what is new.
        offered = offer(BIDS, RING, (0,), "new")
        self.refuses(NoPart, lead_over, Hall(BIDS), offered)
        self.refuses(NoPart, lead_over, Hall(MARKET), offer(MARKET, TRADE, (0,), "new"))
        # One that was written by hand: hand 1 has ended, and would have something to say.
        places = MARKET[1][:4] + (say(0, 2, ("off", 5), ("on", 6)), END, say(1, 0, ("x", 5)))
        self.refuses(NoPart, lead_over, Hall(MARKET), (3, places))

    def test_no_offer_comes_ahead_of_no_part(self):
        offered = offer(BIDS, RING, (0,), "new")
        self.refuses(NoOffer, lead_over, Hall(MARKET), offered)
        back = with_choices(offered, 1, offered[1][1][3] + (("sto", NONE, 3),))
        self.refuses(NoPart, lead_over, Hall(BIDS), with_choices(offered, 1, offered[1][1][3] + (("sto", NONE, 7),)))
        self.refuses(NoOffer, lead_over, Hall(BIDS), back)

    def test_told_or_refused(self):
        dice = Dice(449)
        told = {True: 0, False: 0}
        for round_number in range(300):
            grammar = dice.one_of(fair_grammars())
            newer = dice.one_of([other for other in made_grammars() if other[0] == grammar[0]])
            places = tuple(number for number in says_at(grammar) if dice.below(3) == 0)
            offered = offer_by_name(grammar, newer, places, "k")
            fair = is_fair_by_sets(offered)
            told[fair] += 1
            hall = Hall(grammar)
            moves = gone_on(dice, hall, parts_of(grammar), 5)
            if fair:
                other = Hall(offered)
                for move in moves:
                    do(other, move)
                self.assertEqual(all_told(lead_over(hall, offered), grammar[0]), all_told(other, grammar[0]))
            else:
                self.refuses(NoPart, lead_over, hall, offered)
        self.assertGreater(min(told.values()), 50)


class Settled(TurningCase):
    def test_two_hands(self):
        given = (TALK, COUNTING, (0, 1), "new")
        hall = Hall(offer(*given))
        self.refuses(NotYet, settled, hall, *given)
        hall.say(0, "ask", 5)
        hall.hear(1)
        self.refuses(NotYet, settled, hall, *given)
        hall.say(1, "new", None)
        self.refuses(NotYet, settled, hall, *given)
        # Hand 1 goes on, while hand 0 has not heard of it yet.
        hall.say(1, "n", 4)
        self.refuses(NotYet, settled, hall, *given)
        self.assertEqual(hall.hear(0), (1, "new", None))
        before = all_told(hall, 2)
        new = settled(hall, *given)
        self.assertIsInstance(new, Hall)
        self.assertEqual(new.done(0), ())
        self.assertEqual(new.done(1), (("says", 0, "n", 4),))
        self.assertEqual(new.under_way(1, 0), (("n", 4),))
        self.assertEqual([new.state(hand) for hand in (0, 1)], [0, 0])
        self.assertEqual(new.can(), (("hear", 0), ("say", 1, "n"), ("say", 1, "sto")))
        new.say(1, "sto", None)
        self.assertEqual([new.hear(0), new.hear(0)], [(1, "n", 4), (1, "sto", None)])
        self.assertIs(new.is_over(), True)
        self.assertEqual(way_of(new), (("n", 4), ("sto", None)))
        self.assertEqual(all_told(hall, 2), before)
        self.assertEqual(hall.hear(0), (1, "n", 4))

    def test_three_hands(self):
        given = (BIDS, RING, (1,), "new")
        hall = Hall(offer(*given))
        hall.say(0, "bid", 5)
        hall.hear(1)
        moves = (("say", 1, "new", None), ("hear", 0), ("say", 1, "new", None), ("hear", 2))
        for move in moves:
            self.refuses(NotYet, settled, hall, *given)
            do(hall, move)
        new = settled(hall, *given)
        self.assertEqual(all_told(new, 3), all_told(Hall(RING), 3))
        hall.say(2, "x", 6)
        new = settled(hall, *given)
        self.assertEqual(new.done(2), (("says", 0, "x", 6),))
        self.assertEqual(new.under_way(2, 0), (("x", 6),))
        self.assertEqual([new.state(hand) for hand in range(3)], [0, 0, 1])
        hall.hear(0)
        hall.say(0, "y", 1)
        hall.hear(1)
        self.assertIs(hall.is_over(), True)
        new = settled(hall, *given)
        self.assertIs(new.is_over(), True)
        self.assertEqual(new.done(0), (("hears", 2, "x", 6), ("says", 1, "y", 1)))
        self.assertEqual(new.done(1), (("hears", 0, "y", 1),))

    def test_one_hand_has_heard_of_it_and_went_on_and_another_one_has_not(self):
        given = (BIDS, (3, (say(0, 1, ("go", 1)), say(1, 2, ("on", 2)), END)), (1,), "new")
        hall = Hall(offer(*given))
        hall.say(0, "bid", 5)
        hall.hear(1)
        hall.say(1, "new", None)
        hall.hear(0)
        hall.say(0, "go", None)
        self.refuses(NotYet, settled, hall, *given)
        hall.say(1, "new", None)
        hall.hear(1)
        hall.say(1, "on", None)
        self.refuses(NotYet, settled, hall, *given)
        self.assertEqual(hall.under_way(1, 2), (("new", None), ("on", None)))
        hall.hear(2)
        new = settled(hall, *given)
        self.assertEqual(new.under_way(1, 2), (("on", None),))
        self.assertEqual([new.done(hand) for hand in range(3)], [
            (("says", 1, "go", None),), (("hears", 0, "go", None), ("says", 2, "on", None)), (),
        ])

    def test_letters_of_older_words_under_way(self):
        # Hand 0 goes far ahead of hand 1, and offers something then.
        grammar = (2, (say(0, 1, ("n", DIGIT, 0), ("z", 1)), END))
        given = (grammar, COUNTING, (0,), "new")
        hall = Hall(offer(*given))
        for number in range(5):
            hall.say(0, "n", number)
        hall.say(0, "new", None)
        for number in range(6):
            self.refuses(NotYet, settled, hall, *given)
            hall.hear(1)
        self.assertEqual(all_told(settled(hall, *given), 2), all_told(Hall(COUNTING), 2))

    def test_where_nothing_was_offered_and_it_is_over(self):
        given = (TALK, COUNTING, (0, 1), "new")
        hall = Hall(offer(*given))
        hall.say(0, "bye", None)
        self.refuses(NotYet, settled, hall, *given)
        hall.hear(1)
        self.assertIs(hall.is_over(), True)
        self.refuses(NotYet, settled, hall, *given)
        self.refuses(NotYet, settled, Hall(offer(TALK, COUNTING, (), "new")), TALK, COUNTING, (), "new")

    def test_the_newer_grammar_ends_at_once(self):
        given = (TALK, (2, (END,)), (0,), "new")
        hall = Hall(offer(*given))
        hall.say(0, "new", None)
        self.refuses(NotYet, settled, hall, *given)
        hall.hear(1)
        new = settled(hall, *given)
        self.assertIs(new.is_over(), True)
        self.assertEqual(all_told(new, 2), all_told(Hall((2, (END,))), 2))

    def test_the_word_is_said_elsewhere_in_the_older_grammar(self):
        # Hand 1 can say no, which is what hand 0 offers.
        given = (TALK, COUNTING, (0,), "no")
        hall = Hall(offer(*given))
        for round_number in range(3):
            hall.say(0, "ask", 5)
            hall.hear(1)
            hall.say(1, "no", None)
            hall.hear(0)
            self.refuses(NotYet, settled, hall, *given)
        hall.say(0, "no", None)
        self.refuses(NotYet, settled, hall, *given)
        hall.hear(1)
        hall.say(1, "n", 5)
        new = settled(hall, *given)
        self.assertEqual(new.done(0), ())
        self.assertEqual(new.done(1), (("says", 0, "n", 5),))

    def test_the_word_is_said_to_the_same_hand_in_the_older_grammar(self):
        # What hand 0 hears is the same: at first an older word, then, at another place, the one that is offered.
        grammar = (2, (say(1, 0, ("new", 1), ("z", 1)), say(1, 0, ("a", 2)), END))
        given = (grammar, COUNTING, (1,), "new")
        hall = Hall(offer(*given))
        hall.say(1, "new", None)
        hall.hear(0)
        self.refuses(NotYet, settled, hall, *given)
        hall.say(1, "new", None)
        hall.say(1, "n", 3)
        self.refuses(NotYet, settled, hall, *given)
        hall.hear(0)
        new = settled(hall, *given)
        self.assertEqual(new.done(1), (("says", 0, "n", 3),))
        self.assertEqual(new.under_way(1, 0), (("n", 3),))

    def test_who_says_it_can_not_tell_whether_it_is_offered(self):
        # Hand 1 tells hand 2 whether the word that hand 0 says next is an older one or the one that is offered.
        grammar = (3, (
            say(1, 2, ("a", 1), ("b", 2)),
            say(0, 1, ("k", 3)), say(0, 1, ("k", 3), ("new", 4)), say(0, 2, ("k", 5)), say(0, 2, ("new", 5)), END,
        ))
        newer = (3, (END,))
        given = (grammar, newer, (1,), "new")
        offered = offer(*given)
        self.assertTrue(is_fair_by_sets(offered))
        for word in "ab":
            hall = Hall(offered)
            hall.say(0, "new", None)
            hall.say(0, "new", None)
            self.refuses(NotYet, settled, hall, *given)
            hall.say(1, word, None)
            hall.hear(1)
            self.refuses(NotYet, settled, hall, *given)
            hall.hear(2)
            self.refuses(NotYet, settled, hall, *given)
            hall.hear(2)
            self.assertIs(hall.is_over(), True)
            if word == "a":
                self.assertEqual(all_told(settled(hall, *given), 3), all_told(Hall(newer), 3))
            else:
                self.refuses(NotYet, settled, hall, *given)

    def test_the_word_is_said_in_the_newer_grammar(self):
        newer = (2, (say(0, 1, ("new", 1)), say(1, 0, ("new", 0))))
        given = (TALK, newer, (0,), "new")
        hall = Hall(offer(*given))
        hall.say(0, "new", None)
        hall.say(0, "new", None)
        self.refuses(NotYet, settled, hall, *given)
        hall.hear(1)
        self.assertEqual(settled(hall, *given).done(0), (("says", 1, "new", None),))
        self.assertEqual(settled(hall, *given).under_way(0, 1), (("new", None),))
        hall.hear(1)
        hall.say(1, "new", None)
        new = settled(hall, *given)
        self.assertEqual(new.done(1), (("hears", 0, "new", None), ("says", 0, "new", None)))
        self.assertEqual([new.state(hand) for hand in (0, 1)], [1, 0])

    def test_each_hand_of_three_and_four_offers_it(self):
        for hands in (3, 4):
            for leader in range(hands):
                grammar = again((hands, (END,)), leader, "mor", "sto")
                newer = again((hands, (END,)), (leader + 1) % hands, "up", "wel")
                given = (grammar, newer, (0,), "new")
                hall = Hall(offer(*given))
                for word in ("mor", "mor", "new"):
                    for other in range(hands - 1):
                        hall.say(leader, word, None)
                others = [hand for hand in range(hands) if hand != leader]
                for round_number in range(3):
                    for hand in others:
                        self.refuses(NotYet, settled, hall, *given)
                        hall.hear(hand)
                self.assertEqual(all_told(settled(hall, *given), hands), all_told(Hall(newer), hands))

    def test_a_hall_that_was_led_over(self):
        hall = Hall(TALK)
        hall.say(0, "ask", 5)
        hall.hear(1)
        hall.say(1, "yes", "lef")
        given = (TALK, COUNTING, (0, 1), "new")
        led = lead_over(hall, offer(*given))
        led.hear(0)
        led.say(0, "new", None)
        self.refuses(NotYet, settled, led, *given)
        led.hear(1)
        new = settled(led, *given)
        self.assertEqual(all_told(new, 2), all_told(Hall(COUNTING), 2))
        # And it can be offered something again.
        new.say(1, "n", 3)
        given = (COUNTING, TALK, (0,), "new")
        led = lead_over(new, offer(*given))
        self.assertEqual(led.under_way(1, 0), (("n", 3),))
        led.say(1, "new", None)
        led.hear(0)
        self.refuses(NotYet, settled, led, *given)
        led.hear(0)
        self.assertEqual(all_told(settled(led, *given), 2), all_told(Hall(TALK), 2))

    def test_the_halls_do_not_share_anything(self):
        given = (TALK, COUNTING, (0,), "new")
        hall = Hall(offer(*given))
        hall.say(0, "new", None)
        hall.hear(1)
        hall.say(1, "n", 3)
        new = settled(hall, *given)
        before = all_told(new, 2)
        hall.say(1, "n", 4)
        hall.hear(0)
        self.assertEqual(all_told(new, 2), before)
        now = all_told(hall, 2)
        new.hear(0)
        new.say(1, "sto", None)
        self.assertEqual(all_told(hall, 2), now)

    def test_more_places_and_choices(self):
        newer = (2, (say(1, 0, *[(word, 1) for word in "abcdefgh"]), END))
        given = (chain(80), newer, tuple(range(79)), "new")
        hall = Hall(offer(*given))
        for number in range(70):
            hall.say(0, "on", None)
        hall.say(0, "new", None)
        for number in range(71):
            self.refuses(NotYet, settled, hall, *given)
            hall.hear(1)
        self.assertEqual(settled(hall, *given).can(), tuple(("say", 1, word) for word in "abcdefgh"))

    def test_a_hall_with_lesser_parts(self):
        dice = Dice(457)
        seen = 0
        for given in fair_offers():
            offered = offer(*given)
            parts = tuple(lesser(dice, part) for part in parts_of(offered))
            hall = hall_with(offered, parts)
            gone_on(dice, hall, parts, 25, given[3])
            seen += self.settles(given, hall)
        self.assertGreater(seen, 20)

    def cuts(self, given, way):
        """For each hand how many of its doings on a way lie ahead of the newer grammar, told by the words of 8.3."""
        grammar, newer, places, word = given
        offered = offer_by_name(*given)
        first = len(grammar[1])
        told = [None] * grammar[0]
        for length in range(len(way)):
            number = place_of(offered, way[:length])
            on = first <= number < len(offered[1]) - len(newer[1])
            if on or (number in places and way[length] == (word, None)):
                for hand in offered[1][number][1:3]:
                    told[hand] = len(done_on(offered, hand, way[:length + 1]))
        return told

    def settles(self, given, hall):
        """Whether it is settled, told rightly by the way of the hall."""
        hands = given[0][0]
        cuts = self.cuts(given, way_of(hall))
        logs = [hall.done(hand) for hand in range(hands)]
        if any(cut is None or len(log) < cut for cut, log in zip(cuts, logs)):
            self.refuses(NotYet, settled, hall, *given)
            return False
        new = settled(hall, *given)
        other = replayed(given[1], [log[cut:] for log, cut in zip(logs, cuts)])
        self.assertEqual(all_told(new, hands), all_told(other, hands))
        # Nothing older is under way.
        self.assertEqual(all_told(new, hands)[2], all_told(hall, hands)[2])
        return True

    def test_behind_each_move(self):
        dice = Dice(461)
        seen = set()
        for given in fair_offers():
            parts = parts_of(offer(*given))
            for round_number in range(3):
                hall = Hall(given[0])
                gone_on(dice, hall, parts_of(given[0]), dice.below(8))
                led = lead_over(hall, offer(*given))
                for move in range(12):
                    before = all_told(led, given[0][0])
                    done = self.settles(given, led)
                    seen.add((given[0][0], done, any(before[2])))
                    if done:
                        new = settled(led, *given)
                        self.assertEqual((new.can(), new.is_over()), (led.can(), led.is_over()))
                    self.assertEqual(all_told(led, given[0][0]), before)
                    gone_on(dice, led, parts, 1, given[3])
        self.assertEqual(len(seen), 12)

    def test_it_goes_on_as_a_hall_of_the_newer_grammar_alone(self):
        dice = Dice(463)
        seen = 0
        for given in fair_offers():
            hands = given[0][0]
            offered = offer(*given)
            way = made_way(dice, given[0], 8)
            ways = [way[:length] for length in range(len(way) + 1) if place_of(given[0], way[:length]) in given[2]]
            if not ways:
                continue
            way = ways[-1] + ((given[3], None),) * (hands - 1)
            hall = Hall(offered)
            left = [moves_on(offered, hand, way) for hand in range(hands)]
            while any(left):
                ready = [moves for moves in left if moves and moves[0][:3] in hall.can()]
                do(hall, dice.one_of(ready).pop(0))
            self.assertEqual(all_told(settled(hall, *given), hands), all_told(Hall(given[1]), hands))
            moves = gone_on(dice, hall, parts_of(offered), 6)
            new = settled(hall, *given)
            other = Hall(given[1])
            for move in moves:
                do(other, move)
            self.assertEqual(all_told(new, hands), all_told(other, hands))
            for move in gone_on(dice, new, parts_of(given[1]), 8):
                do(other, move)
                do(hall, move)
            self.assertEqual(all_told(new, hands), all_told(other, hands))
            self.assertEqual(all_told(settled(hall, *given), hands), all_told(new, hands))
            seen += 1
        self.assertGreater(seen, 60)


class AllThatIsTold(TurningCase):
    def test_the_same_is_told_again_and_nothing_is_changed(self):
        for given in fair_offers()[::3]:
            kept = copy.deepcopy(given)
            told = offer(*given)
            self.assertTrue(is_plain(told))
            self.assertEqual(offer(*copy.deepcopy(given)), told)
            self.assertEqual(given, kept)
            hall = Hall(given[0])
            hands = given[0][0]
            self.assertEqual(all_told(lead_over(hall, told), hands), all_told(lead_over(hall, told), hands))
            self.assertEqual(told, offer(*given))

    def test_what_new_halls_tell_is_plain(self):
        given = (TALK, COUNTING, (0, 1), "new")
        hall = Hall(TALK)
        hall.say(0, "ask", 5)
        led = lead_over(hall, offer(*given))
        led.hear(1)
        led.say(1, "new", None)
        led.say(1, "n", 5)
        led.hear(0)
        for told in (led, settled(led, *given)):
            self.assertTrue(is_plain(all_told(told, 2)))
            self.assertTrue(is_plain(way_of(told)))
        self.assertEqual(all_told(settled(led, *given), 2), all_told(settled(led, *given), 2))

    def test_grammars_put_together(self):
        grammar = asked((BIDS, RING), 1, ("bid", "rin"))
        given = (grammar, MARKET, (0,), "mar")
        hall = Hall(offer(*given))
        self.assertEqual(hall.can(), (("say", 1, "bid"), ("say", 1, "mar"), ("say", 1, "rin")))
        hall.say(1, "mar", None)
        hall.say(1, "mar", None)
        hall.hear(2)
        self.refuses(NotYet, settled, hall, *given)
        hall.hear(0)
        self.assertEqual(all_told(settled(hall, *given), 3), all_told(Hall(MARKET), 3))


if __name__ == "__main__":
    unittest.main()
