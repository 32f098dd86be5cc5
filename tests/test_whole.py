"""The interface as it stands, and 0.1, 0.2 (a) to (i) and 0.3 over the whole program."""

import copy
import importlib
import inspect
import pkgutil
import unittest

import parleyturn
from helper import (
    END, MARKET, Dice, all_told, do, ending_grammars, fair_grammars, grown_grammar, is_plain, lesser, made_grammars,
    made_move, made_numbers, made_way, moves_on, reached, say, small_kinds, values_of,
)
from parleyturn.counts import count, soonest
from parleyturn.errors import NoOffer, NoPart, NoStand, NotYet
from parleyturn.grammars import done_on, is_grammar, place_of, renamed
from parleyturn.halls import Hall
from parleyturn.joining import again, asked, followed, rooted
from parleyturn.kinds import first_value, how_many, is_kind, is_value, shared, stray, within
from parleyturn.logs import judge
from parleyturn.making import made
from parleyturn.parts import is_fair, part_of, reason
from parleyturn.standing import clash, hall_with, stands
from parleyturn.timing import clocked, longest, patience, slowest
from parleyturn.turning import lead_over, offer, settled
from parleyturn.ways import way_of

# Each module's functions, with their arguments, as the document has them.
FUNCTIONS = {
    "kinds": (
        "is_kind(thing)", "is_value(kind, thing)", "within(one, other)", "stray(one, other)", "shared(one, other)",
        "how_many(kind)", "first_value(kind)",
    ),
    "grammars": (
        "is_grammar(thing)", "place_of(grammar, way)", "done_on(grammar, hand, way)",
        "renamed(grammar, hands, numbers)",
    ),
    "parts": ("part_of(grammar, hand)", "reason(grammar, hand)", "is_fair(grammar)"),
    "halls": ("Hall(grammar)",),
    "ways": ("way_of(hall)",),
    "logs": ("judge(grammar, logs)",),
    "joining": (
        "asked(grammars, leader, words)", "followed(one, other)", "again(grammar, leader, more, stop)",
        "rooted(grammar, place)",
    ),
    "counts": ("count(grammar, length)", "soonest(grammar, place)"),
    "standing": ("clash(part, other)", "stands(part, other)", "hall_with(grammar, parts)"),
    "turning": (
        "offer(grammar, newer, places, word)", "lead_over(hall, offered)",
        "settled(hall, grammar, newer, places, word)",
    ),
    "making": ("made(parts)",),
    "timing": (
        "clocked(grammar, way, delays)", "longest(grammar, wait, travel)", "patience(grammar, hand, wait, travel)",
        "slowest(grammar, hand, state, wait, travel)",
    ),
}
METHODS = (
    "say(self, hand, word, value)", "hear(self, hand)", "state(self, hand)", "under_way(self, one, other)",
    "done(self, hand)", "can(self)", "is_over(self)",
)


class Interface(unittest.TestCase):
    def test_all_files_are_there(self):
        found = {module.name for module in pkgutil.iter_modules(parleyturn.__path__)}
        self.assertEqual(found, set(FUNCTIONS) | {"errors"})

    def test_names_and_arguments(self):
        for name, functions in FUNCTIONS.items():
            module = importlib.import_module("parleyturn." + name)
            for function in functions:
                told = getattr(module, function.partition("(")[0])
                self.assertEqual(told.__name__ + str(inspect.signature(told)), function)
                self.assertEqual(told.__module__, module.__name__)

    def test_methods(self):
        for method in METHODS:
            told = getattr(Hall, method.partition("(")[0])
            self.assertEqual(told.__name__ + str(inspect.signature(told)), method)

    def test_arguments_by_name(self):
        grammar = (2, (say(0, 1, ("a", 1)), END))
        hall = hall_with(grammar=grammar, parts=(None, None))
        hall.say(hand=0, word="a", value=None)
        hall.hear(hand=1)
        self.assertEqual(longest(grammar=grammar, wait=1, travel=2), 3)
        self.assertEqual(made(parts=(part_of(grammar, 0), part_of(grammar, 1))), ("grammar", grammar))
        offered = offer(grammar=grammar, newer=grammar, places=(0,), word="n")
        self.assertIs(lead_over(hall=hall, offered=offered).is_over(), True)


class WholeCase(unittest.TestCase):
    def gone_on(self, dice, hall, parts, moves):
        """Does some moves in a hall, which never sticks."""
        for move in range(moves):
            if hall.is_over():
                break
            self.assertTrue(hall.can())
            do(hall, made_move(dice, hall, parts))

    def lies_on_a_way(self, grammar, hall):
        way = way_of(hall)
        self.assertIsNotNone(place_of(grammar, way))
        for hand in range(grammar[0]):
            done = hall.done(hand)
            self.assertEqual(done_on(grammar, hand, way)[:len(done)], done)


def own_parts(grammar):
    return tuple(part_of(grammar, hand) for hand in range(grammar[0]))


def logs_of(hall, hands):
    return tuple(hall.done(hand) for hand in range(hands))


def newly_grown():
    """Fair grammars that no other test looks at."""
    dice = Dice(7001)
    for round_number in range(40):
        yield grown_grammar(dice, dice.one_of((2, 3, 3, 4, 4)), 20 + dice.below(60), 14, dice.below(3) > 0)


class AllPromises(WholeCase):
    def test_a_kinds(self):
        kinds = small_kinds()[::4]
        for one in kinds:
            self.assertIs(is_kind(one), True)
            self.assertEqual(how_many(one), len(values_of(one)))
            self.assertIs(is_value(one, first_value(one)), True)
            for other in kinds[::3]:
                told = stray(one, other)
                self.assertIs(within(one, other), told is None)
                if told is not None:
                    self.assertEqual((is_value(one, told[0]), is_value(other, told[0])), (True, False))
                both = {value for value in values_of(one) if is_value(other, value)}
                common = shared(one, other)
                self.assertEqual(both, set() if common is None else set(values_of(common)))

    def test_b_parts_or_reasons(self):
        dice = Dice(7013)
        seen = {True: 0, False: 0}
        for grammar in made_grammars()[::3]:
            numbers = made_numbers(dice, len(grammar[1]), fixed=1)
            grammar = renamed(grammar, made_numbers(dice, grammar[0]), numbers)
            for hand in range(grammar[0]):
                why = reason(grammar, hand)
                seen[why is None] += 1
                if why is None:
                    self.assertGreaterEqual(len(part_of(grammar, hand)), 1)
                else:
                    with self.assertRaises(NoPart):
                        part_of(grammar, hand)
                    self.assertEqual(done_on(grammar, hand, why[1]), done_on(grammar, hand, why[2]))
            self.assertIs(is_fair(grammar), all(reason(grammar, hand) is None for hand in range(grammar[0])))
        self.assertGreater(min(seen.values()), 100)

    def test_c_halls(self):
        dice = Dice(7019)
        for grammar in newly_grown():
            hall = Hall(grammar)
            self.gone_on(dice, hall, own_parts(grammar), 40)
            self.lies_on_a_way(grammar, hall)
            way = made_way(dice, grammar, 10)
            hall = Hall(grammar)
            left = [moves_on(grammar, hand, way) for hand in range(grammar[0])]
            while any(left):
                do(hall, [moves for moves in left if moves and moves[0][:3] in hall.can()][-1].pop(0))
            for hand in range(grammar[0]):
                self.assertEqual(hall.done(hand), done_on(grammar, hand, way))
            self.assertFalse(any(all_told(hall, grammar[0])[2]))

    def test_d_logs(self):
        dice = Dice(7027)
        for grammar in newly_grown():
            hall = Hall(grammar)
            self.gone_on(dice, hall, own_parts(grammar), 25)
            logs = logs_of(hall, grammar[0])
            sort, way = judge(grammar, logs)
            self.assertEqual(sort, "way")
            for hand, log in enumerate(logs):
                self.assertEqual(done_on(grammar, hand, way)[:len(log)], log)
                broken = logs[:hand] + (log + (("says", hand, "zzz", None),),) + logs[hand + 1:]
                self.assertEqual(judge(grammar, broken), ("broke", hand, len(log)))
                if log and log[-1][0] == "says" and not hall.under_way(hand, log[-1][1]):
                    self.assertEqual(judge(grammar, logs[:hand] + (log[:-1],) + logs[hand + 1:])[0], "unheard")

    def test_e_grammars_put_together_and_parts_that_stand(self):
        dice = Dice(7039)
        grown = list(newly_grown())
        for grammar in grown:
            other = dice.one_of([other for other in grown if other[0] == grammar[0]])
            unfair = dice.one_of([other for other in made_grammars() if other[0] == grammar[0]])
            self.assertIs(is_fair(asked((grammar, other), dice.below(grammar[0]), ("g", "h"))), True)
            self.assertIs(is_fair(asked((grammar, unfair), 1, ("g", "h"))), is_fair(unfair))
            if all(soonest(grammar, number) is not None for number in reached(grammar, {0})):
                self.assertIs(is_fair(followed(grammar, other)), True)
                self.assertIs(is_fair(again(grammar, 0, "g", "h")), True)
            place = dice.below(len(grammar[1]))
            self.assertIs(is_grammar(rooted(grammar, place)), True)
            parts = tuple(lesser(dice, part) for part in own_parts(grammar))
            hall = hall_with(grammar, parts)
            self.gone_on(dice, hall, parts, 40)
            self.lies_on_a_way(grammar, hall)
            self.assertEqual(judge(grammar, logs_of(hall, grammar[0]))[0], "way")
            with self.assertRaises(NoStand):
                hall_with(grammar, (None,) * (grammar[0] - 1) + ((("says", 0, (("zzz", ("none",), 0),)),),))

    def test_f_newer_grammars(self):
        # The leader says what is asked to all, so that whatever is offered there leads to a fair grammar.
        dice = Dice(7043)
        grown = list(newly_grown())
        led_over = 0
        for grammar in grown:
            hands = grammar[0]
            newer = dice.one_of([other for other in grown if other[0] == hands])
            leader = dice.below(hands)
            older = again(grammar, leader, "mor", "sto")
            if any(soonest(grammar, number) is None for number in reached(grammar, {0})):
                continue
            asking = [number for number, place in enumerate(older[1]) if place != END and place[3][0][0] == "mor"][:1]
            given = (older, newer, tuple(asking), "new")
            offered = offer(*given)
            self.assertIs(is_fair(offered), True)
            hall = Hall(older)
            other = Hall(offered)
            for move in range(dice.below(20)):
                if not hall.is_over():
                    move = made_move(dice, hall, own_parts(older))
                    do(hall, move)
                    do(other, move)
            led = lead_over(hall, offered)
            self.assertEqual(all_told(led, hands), all_told(other, hands))
            led_over += self.is_settled_in_time(dice, led, given)
        self.assertGreater(led_over, 10)

    def is_settled_in_time(self, dice, led, given):
        """Goes on until all have heard what is offered, and some moves more; whether it came so far."""
        hands = given[0][0]
        parts = own_parts(offer(*given))
        for move in range(400):
            offers = [move for move in led.can() if move[2:] == ("new",)]
            try:
                new = settled(led, *given)
            except NotYet:
                if led.is_over():
                    return False
                do(led, offers[0] + (None,) if offers else made_move(dice, led, parts))
                continue
            self.assertEqual(all_told(new, hands)[2:], all_told(led, hands)[2:])
            for move in range(10):
                if not new.is_over():
                    move = made_move(dice, new, own_parts(given[1]))
                    do(new, move)
                    do(led, move)
            self.assertEqual(all_told(settled(led, *given), hands), all_told(new, hands))
            self.lies_on_a_way(given[1], new)
            return True
        return False

    def test_g_parts_alone(self):
        dice = Dice(7057)
        for grammar in newly_grown():
            parts = own_parts(grammar)
            sort, told = made(parts)
            self.assertEqual(sort, "grammar")
            self.assertIs(is_fair(told), True)
            for part, again_told in zip(parts, own_parts(told)):
                self.assertIs(stands(part, again_told), True)
                self.assertIs(stands(again_told, part), True)
            parts = tuple(lesser(dice, part) for part in parts)
            told = made(parts)
            if told[0] == "grammar" and is_fair(told[1]):
                hall = hall_with(told[1], parts)
                self.gone_on(dice, hall, parts, 30)
                self.lies_on_a_way(told[1], hall)

    def test_h_time(self):
        dice = Dice(7069)
        for grammar in ending_grammars()[1::2]:
            wait, travel = dice.one_of(((0, 0), (1, 0), (0, 1), (1, 1), (9, 1), (1, 9), (1000, 1000)))
            for hand, part in enumerate(own_parts(grammar)):
                told = patience(grammar, hand, wait, travel)
                self.assertEqual(len(told), len(part))
                for state, time in enumerate(told):
                    if time is not None:
                        way, delays = slowest(grammar, hand, state, wait, travel)
                        times = clocked(grammar, way, delays)
                        self.assertEqual(times[-1][1] - self.time_ahead(grammar, hand, way, times), time)
                        self.assertLessEqual(times[-1][1], longest(grammar, wait, travel))

    def time_ahead(self, grammar, hand, way, times):
        """The time of a hand ahead of the last word of a way."""
        time = 0
        for length in range(len(way) - 1):
            place = grammar[1][place_of(grammar, way[:length])]
            if hand in place[1:3]:
                time = times[length][place[1:3].index(hand)]
        return time

    def test_i_other_numbers_and_other_orders(self):
        dice = Dice(7079)
        for grammar in list(newly_grown())[::2] + list(ending_grammars()[::8]):
            hands = made_numbers(dice, grammar[0])
            told = renamed(grammar, hands, made_numbers(dice, len(grammar[1]), fixed=1))
            self.assertIs(is_fair(told), True)
            self.assertEqual(count(told, 6), count(grammar, 6))
            self.assertEqual(soonest(told, 0), soonest(grammar, 0))
            for hand, part in enumerate(own_parts(grammar)):
                states = [state if state == END else (state[0], hands[state[1]], state[2]) for state in part]
                self.assertEqual(part_of(told, hands[hand]), tuple(states))
                self.assertIsNone(clash(part_of(told, hands[hand]), tuple(states)))
            hall = Hall(grammar)
            self.gone_on(dice, hall, own_parts(grammar), 12)
            logs = [None] * grammar[0]
            for hand in range(grammar[0]):
                logs[hands[hand]] = tuple((doing[0], hands[doing[1]]) + doing[2:] for doing in hall.done(hand))
            self.assertEqual(judge(told, tuple(logs))[0], "way")


    def test_i_moves_of_unlike_hands_in_either_order(self):
        dice = Dice(7081)
        tried = 0
        for grammar in newly_grown():
            parts = tuple(lesser(dice, part) for part in own_parts(grammar))
            hall = hall_with(grammar, parts)
            for round_number in range(20):
                if hall.is_over():
                    break
                one, other = made_move(dice, hall, parts), made_move(dice, hall, parts)
                if one[1] != other[1]:
                    tried += 1
                    first, second = copy.deepcopy(hall), copy.deepcopy(hall)
                    told = {one: do(first, one), other: do(first, other)}
                    self.assertEqual({other: do(second, other), one: do(second, one)}, told)
                    self.assertEqual(all_told(first, grammar[0]), all_told(second, grammar[0]))
                do(hall, one)
        self.assertGreater(tried, 50)


class OneTalk(WholeCase):
    """One talk, from parts to time, in which all modules take part."""

    def test_from_the_beginning_to_the_end(self):
        market = again(MARKET, 0, "mor", "sto")
        parts = own_parts(market)
        self.assertIs(is_fair(market), True)
        hall = Hall(market)
        do(hall, ("say", 0, "ask", "lef"))
        for move in (("hear", 1), ("say", 1, "no", None), ("hear", 0), ("say", 0, "off", None)):
            do(hall, move)
        self.assertEqual(judge(market, logs_of(hall, 3)), ("way", way_of(hall)))
        newer = (3, (say(0, 1, ("a", 1), ("b", 1)), say(0, 2, ("c", 2)), END))
        asking = [number for number, place in enumerate(market[1]) if place != END and place[3][0][0] == "mor"][0]
        given = (market, newer, (asking,), "new")
        led = lead_over(hall, offer(*given))
        self.assertEqual(led.can(), (("hear", 2), ("say", 0, "mor"), ("say", 0, "new"), ("say", 0, "sto")))
        for move in (("say", 0, "new", None), ("say", 0, "new", None), ("say", 0, "b", None), ("hear", 1), ("hear", 2)):
            do(led, move)
        self.assertEqual(led.under_way(0, 2), (("new", None),))
        with self.assertRaises(NotYet):
            settled(led, *given)
        led.hear(2)
        new = settled(led, *given)
        self.assertEqual(logs_of(new, 3), ((("says", 1, "b", None),), (), ()))
        self.assertEqual(new.under_way(0, 1), (("b", None),))
        new.hear(1)
        new.say(0, "c", None)
        new.hear(2)
        self.assertIs(new.is_over(), True)
        self.assertEqual(judge(newer, logs_of(new, 3)), ("way", (("b", None), ("c", None))))
        self.assertEqual(made(own_parts(newer)), ("grammar", newer))
        self.assertEqual(longest(newer, 1, 5), 7)
        self.assertEqual(patience(newer, 2, 1, 5), (7, None))
        self.assertEqual(clocked(newer, way_of(new), ((1, 5), (1, 5))), ((1, 6), (2, 7)))
        self.assertEqual(count(newer, 2), 2)
        # What was done in the older hall stays.
        self.assertEqual(logs_of(hall, 3)[2], ())
        self.assertEqual(made(parts)[0], "grammar")


class GreaterGrammars(WholeCase):
    """More than 60 places, and more than 5 choices: all functions take them, and is_grammar alone tells False."""

    def test_all_functions(self):
        dice = Dice(7103)
        piece = (3, (say(0, 1, ("a", 1), ("b", 2)), say(1, 2, ("c", 3)), say(1, 2, ("d", 3)), END))
        grammar = asked((piece,) * 14, 1, tuple("abcdefghijklmn"))
        self.assertIs(is_grammar(grammar), False)
        self.assertGreater(len(grammar[1]), 60)
        parts = own_parts(grammar)
        self.assertIs(is_fair(grammar), True)
        for part in parts:
            self.assertIs(stands(part, part), True)
        hall = hall_with(grammar, tuple(lesser(dice, part) for part in parts))
        self.assertEqual(len(Hall(grammar).can()), 14)
        self.assertTrue(hall.can())
        offered = offer(grammar, grammar, (0,), "new")
        led = lead_over(Hall(grammar), offered)
        self.assertEqual(len(led.can()), 15)
        for move in (("say", 1, "new", None), ("say", 1, "new", None), ("hear", 0), ("hear", 2)):
            do(led, move)
        self.assertEqual(len(settled(led, grammar, grammar, (0,), "new").can()), 14)
        told = made(parts)
        self.assertEqual(told[0], "grammar")
        self.assertIs(is_fair(told[1]), True)
        # From hand 1 to hand 0, back, and on to hand 2; where it is offered hand 1 says two words more ahead of that.
        self.assertEqual(longest(grammar, 1, 10), 33)
        self.assertEqual(longest(offered, 1, 10), 35)
        for hand in range(3):
            for state, time in enumerate(patience(grammar, hand, 1, 10)):
                if time is not None:
                    way, delays = slowest(grammar, hand, state, 1, 10)
                    times = clocked(grammar, way, delays)
                    self.assertLessEqual(time, times[-1][1])
        with self.assertRaises(NoOffer):
            lead_over(Hall(offered), grammar)


class AllThatIsTold(WholeCase):
    def test_plain_things_and_halls_alone(self):
        dice = Dice(7109)
        for grammar in fair_grammars()[::9] + ending_grammars()[::9]:
            hands = grammar[0]
            parts = own_parts(grammar)
            hall = hall_with(grammar, tuple(lesser(dice, part) for part in parts))
            told = [parts, made(parts), all_told(hall, hands), way_of(hall), clash(parts[0], parts[1])]
            says = [number for number, place in enumerate(grammar[1]) if place != END]
            told.append(offer(grammar, grammar, tuple(says), "new"))
            led = lead_over(Hall(grammar), offer(grammar, grammar, (), "new"))
            self.assertIsInstance(led, Hall)
            told.append(all_told(led, hands))
            for thing in told:
                self.assertTrue(is_plain(thing))


if __name__ == "__main__":
    unittest.main()
