"""Points 0.2 (a), 0.3 and 1.1 to 1.4: kinds."""

import copy
import unittest

from helper import DIGIT, NONE, ODD_THINGS, SIDE, is_plain, nested, rows_around, shown, small_kinds, values_of
from parleyturn.kinds import first_value, how_many, is_kind, is_value, shared, stray, within

WIDEST = ("number", -1000000, 1000000)
ALPHABET = "abcdefghijklmnopqrstuvwxyz"


class KindCase(unittest.TestCase):
    def kinds_are(self, told, *things):
        for thing in things:
            self.assertIs(is_kind(thing), told, shown(thing))

    def values_are(self, told, kind, *things):
        for thing in things:
            self.assertIs(is_value(kind, thing), told, (kind, shown(thing)))


class IsKind(KindCase):
    def test_none(self):
        self.kinds_are(True, ("none",))
        self.kinds_are(False, ("none", None), ("none", "none"), ("none", 0, 1), "none", ["none"])

    def test_number(self):
        self.kinds_are(True, ("number", 0, 1), ("number", -7, 3), ("number", -5, -4))

    def test_number_bounds(self):
        self.kinds_are(True, WIDEST, ("number", -1000000, -1000000), ("number", 1000000, 1000000))
        self.kinds_are(False, ("number", -1000001, 0), ("number", 0, 1000001))
        self.kinds_are(False, ("number", -1000001, -1000001), ("number", 1000001, 1000001))

    def test_number_low_at_most_high(self):
        self.kinds_are(True, ("number", 4, 4), ("number", 0, 0))
        self.kinds_are(False, ("number", 5, 4), ("number", 1000000, -1000000), ("number", 1, -1))

    def test_number_of_other_things(self):
        for odd in (True, False, None, "1", (), (1,), [1], []):
            self.kinds_are(False, ("number", odd, 5), ("number", -5, odd), ("number", odd, odd))

    def test_number_length(self):
        self.kinds_are(False, ("number",), ("number", 1), ("number", 1, 2, 3), ["number", 1, 2])

    def test_name(self):
        self.kinds_are(True, SIDE, ("name", ("a", "ab", "abc", "b")), ("name", ("az", "b", "zzz")))

    def test_name_count(self):
        self.kinds_are(True, ("name", ("a",)), ("name", tuple("abcdef")))
        self.kinds_are(False, ("name", ()), ("name", tuple("abcdefg")))

    def test_name_lengths(self):
        self.kinds_are(True, ("name", ("x",)), ("name", ("xyz",)))
        self.kinds_are(False, ("name", ("",)), ("name", ("wxyz",)), ("name", ("", "a")), ("name", ("a", "bcde")))

    def test_name_letters(self):
        for letter in ALPHABET:
            self.kinds_are(True, ("name", (letter,)))
        for code in range(ord(" "), ord("~") + 1):
            if chr(code) not in ALPHABET:
                odd = chr(code)
                self.kinds_are(False, ("name", (odd,)), ("name", ("a" + odd,)), ("name", (odd + "a",)))
                self.kinds_are(False, ("name", tuple(sorted(("a", odd)))))

    def test_names_rise(self):
        self.kinds_are(False, ("name", ("b", "a")), ("name", ("a", "c", "b")), ("name", ("ab", "a")))
        self.kinds_are(False, ("name", ("a", "a")), ("name", ("a", "b", "b")), ("name", ("a", "b", "a")))

    def test_names_of_other_things(self):
        for odd in (True, 1, None, (), ("a",), ["a"], []):
            self.kinds_are(False, ("name", (odd,)), ("name", ("a", odd)), ("name", (odd, "a")))
        for odd in (True, 1, None, "abc", "a", ["a"], ["a", "b"], []):
            self.kinds_are(False, ("name", odd))

    def test_name_length(self):
        self.kinds_are(False, ("name",), ("name", ("a",), ("b",)), ("name", "a", "b"), ["name", ("a",)])

    def test_pair(self):
        self.kinds_are(True, ("pair", NONE, NONE), ("pair", SIDE, DIGIT), ("pair", ("row", NONE, 3), SIDE))
        self.kinds_are(False, ("pair", NONE, None), ("pair", None, NONE), ("pair", ("nun",), NONE))
        self.kinds_are(False, ("pair", NONE, ("number", 2, 1)), ("pair", ["none"], NONE), ("pair", NONE, ["none"]))

    def test_pair_length(self):
        self.kinds_are(False, ("pair",), ("pair", NONE), ("pair", NONE, NONE, NONE), ["pair", NONE, NONE])

    def test_row(self):
        self.kinds_are(True, ("row", NONE, 4), ("row", SIDE, 1), ("row", ("pair", SIDE, DIGIT), 2))
        self.kinds_are(False, ("row", ("nun",), 4), ("row", 4, NONE), ("row", ["none"], 4), ("row", None, 4))

    def test_row_most(self):
        self.kinds_are(True, ("row", NONE, 0), ("row", NONE, 9))
        self.kinds_are(False, ("row", NONE, -1), ("row", NONE, 10))
        for odd in (True, False, None, "3", (3,), [3]):
            self.kinds_are(False, ("row", NONE, odd))

    def test_row_length(self):
        self.kinds_are(False, ("row",), ("row", NONE), ("row", NONE, 1, 2), ["row", NONE, 1])

    def test_depth(self):
        wraps = (
            lambda inner: ("row", inner, 2), lambda inner: ("pair", inner, NONE),
            lambda inner: ("pair", NONE, inner), lambda inner: ("pair", inner, inner),
        )
        for wrap in wraps:
            for inner in (NONE, DIGIT, SIDE):
                for levels in range(7):
                    self.kinds_are(True, nested(inner, levels, wrap))
                for levels in (7, 8, 30):
                    self.kinds_are(False, nested(inner, levels, wrap))

    def test_depth_is_counted_along_each_branch(self):
        self.kinds_are(True, ("pair", rows_around(NONE, 5), rows_around(NONE, 5)))
        self.kinds_are(False, ("pair", rows_around(NONE, 6), NONE), ("pair", NONE, rows_around(NONE, 6)))

    def test_odd_things(self):
        self.kinds_are(False, *ODD_THINGS)
        for odd in ODD_THINGS:
            self.kinds_are(False, ("pair", odd, NONE), ("pair", NONE, odd), ("row", odd, 2), (odd, NONE, 2))
            self.kinds_are(False, (odd, odd), [odd], ("pair", odd), ("nun", odd), ("name", (odd, odd)))


class IsValue(KindCase):
    def test_none(self):
        self.values_are(True, NONE, None)
        self.values_are(False, NONE, *[odd for odd in ODD_THINGS if odd is not None])

    def test_number(self):
        kind = ("number", -2, 3)
        self.values_are(True, kind, -2, -1, 0, 1, 2, 3)
        self.values_are(False, kind, -3, 4, "1", None, (1,), [1], "", ())
        self.values_are(False, ("number", 4, 4), 3, 5)
        self.values_are(True, ("number", 4, 4), 4)

    def test_truths_are_no_numbers(self):
        self.values_are(False, ("number", 0, 1), True, False)
        self.values_are(False, ("row", ("number", 0, 1), 3), (True,), (0, False), (1, 1, True))
        self.values_are(False, ("pair", DIGIT, DIGIT), (True, 0), (0, False))

    def test_name(self):
        kind = ("name", ("a", "bcd", "e"))
        self.values_are(True, kind, "a", "bcd", "e")
        self.values_are(False, kind, "", "b", "bc", "A", "ab", None, 0, True, ("a",), ["a"], ("a", "bcd", "e"))

    def test_pair(self):
        kind = ("pair", DIGIT, SIDE)
        self.values_are(True, kind, (0, "lef"), (9, "rig"))
        self.values_are(False, kind, ("lef", 0), (10, "lef"), (0, "mid"), (0,), (0, "lef", None), (), None)
        self.values_are(False, kind, [0, "lef"], "ab", ((0, "lef"),), (0, ["lef"]))

    def test_row(self):
        kind = ("row", DIGIT, 3)
        self.values_are(True, kind, (), (0,), (9, 0), (1, 1, 1))
        self.values_are(False, kind, (1, 1, 1, 1), (10,), (1, 1, 10), [], [1], "", 1, None, (None,), ((),))
        self.values_are(True, ("row", DIGIT, 0), ())
        self.values_are(False, ("row", DIGIT, 0), (0,), None, [])
        self.values_are(True, ("row", DIGIT, 9), tuple(range(9)))
        self.values_are(False, ("row", DIGIT, 9), (0,) * 10)

    def test_a_value_may_be_of_a_pair_and_a_row(self):
        for kind in (("pair", DIGIT, DIGIT), ("row", DIGIT, 2), ("row", ("number", 3, 4), 9)):
            self.values_are(True, kind, (3, 4))

    def test_six_deep(self):
        kind = rows_around(SIDE, 6, 2)
        value = nested("rig", 6, lambda inner: (inner, inner))
        self.values_are(True, kind, value, (), ((), ()))
        self.values_are(False, kind, nested("mid", 6, lambda inner: (inner, inner)), (value,), "rig", [value])

    def test_odd_things_are_told_by_counting_out(self):
        universe = list(ODD_THINGS) + ["a", "b", (0, 1), (0,), ("a", "b"), (None, None, None), (-3, -3), ((0, 0),)]
        for kind in small_kinds():
            told = values_of(kind)
            for thing in universe:
                known = any(is_same(thing, value) for value in told)
                self.assertIs(is_value(kind, thing), known, kind)

    def test_each_value_that_is_counted_out(self):
        for kind in small_kinds():
            self.values_are(True, kind, *values_of(kind))

    def test_kinds_beyond_the_bounds(self):
        self.values_are(True, ("number", -2000000, 3000000), -2000000, -1500000, 3000000)
        self.values_are(False, ("number", -2000000, 3000000), -2000001, 3000001)
        self.values_are(True, ("name", tuple("abcdefgh")), "a", "h")
        self.values_are(True, ("name", ("long", "longer")), "long", "longer")
        self.values_are(True, ("row", NONE, 12), (None,) * 12)
        self.values_are(False, ("row", NONE, 12), (None,) * 13)
        self.values_are(True, rows_around(NONE, 9), nested(None, 9, lambda inner: (inner,)))
        self.values_are(False, rows_around(NONE, 9), nested(0, 9, lambda inner: (inner,)))

    def test_kinds_without_values(self):
        self.values_are(False, ("number", 5, 4), 4, 5)
        self.values_are(False, ("name", ()), "", None)
        self.values_are(False, ("row", NONE, -1), (), (None,))


def is_same(one, other):
    """Whether two things are equal, truths being no numbers."""
    if isinstance(one, tuple) and isinstance(other, tuple):
        return len(one) == len(other) and all(is_same(*both) for both in zip(one, other))
    return isinstance(one, bool) == isinstance(other, bool) and one == other


def two_and_two(test):
    """Hands each two small kinds to a test, with the sets of their values."""
    kinds = [(kind, frozenset(values_of(kind))) for kind in small_kinds() + EMPTY_KINDS]
    for one, ones in kinds:
        for other, others in kinds:
            test(one, ones, other, others)


# They lie beyond the bounds, and are not refused for it.
EMPTY_KINDS = [
    ("number", 3, 2), ("name", ()), ("row", NONE, -1), ("pair", NONE, ("number", 1, -1)),
    ("pair", ("name", ()), NONE), ("row", ("number", 3, 2), 2), ("row", ("pair", NONE, ("name", ())), 1),
]


class Within(KindCase):
    def test_same_sorts(self):
        self.assertIs(within(NONE, NONE), True)
        self.assertIs(within(("number", 2, 3), ("number", 2, 4)), True)
        self.assertIs(within(("number", 1, 3), ("number", 2, 4)), False)
        self.assertIs(within(("number", 2, 5), ("number", 2, 4)), False)
        self.assertIs(within(("name", ("a", "c")), ("name", ("a", "b", "c"))), True)
        self.assertIs(within(("name", ("a", "b", "c")), ("name", ("a", "c"))), False)
        self.assertIs(within(("pair", NONE, ("number", 1, 1)), ("pair", NONE, DIGIT)), True)
        self.assertIs(within(("pair", NONE, DIGIT), ("pair", NONE, ("number", 1, 1))), False)
        self.assertIs(within(("pair", DIGIT, NONE), ("pair", ("number", 1, 1), NONE)), False)
        self.assertIs(within(("row", ("number", 1, 1), 2), ("row", DIGIT, 3)), True)
        self.assertIs(within(("row", ("number", 1, 1), 3), ("row", DIGIT, 2)), False)
        self.assertIs(within(("row", DIGIT, 1), ("row", ("number", 1, 1), 2)), False)

    def test_unlike_sorts(self):
        kinds = (NONE, DIGIT, SIDE, ("pair", NONE, NONE), ("row", NONE, 1))
        for one in kinds:
            for other in kinds:
                self.assertIs(within(one, other), one == other, (one, other))

    def test_pairs_and_rows(self):
        pair = ("pair", ("number", 1, 2), ("number", 3, 4))
        self.assertIs(within(pair, ("row", DIGIT, 2)), True)
        self.assertIs(within(pair, ("row", DIGIT, 9)), True)
        self.assertIs(within(pair, ("row", DIGIT, 1)), False)
        self.assertIs(within(pair, ("row", ("number", 1, 3), 2)), False)
        self.assertIs(within(pair, ("row", ("number", 2, 4), 2)), False)
        self.assertIs(within(("row", DIGIT, 2), ("pair", DIGIT, DIGIT)), False)

    def test_the_empty_tuple(self):
        self.assertIs(within(("row", SIDE, 0), ("row", DIGIT, 5)), True)
        self.assertIs(within(("row", SIDE, 0), ("row", NONE, 0)), True)
        self.assertIs(within(("row", SIDE, 1), ("row", SIDE, 0)), False)
        self.assertEqual(stray(("row", SIDE, 2), ("pair", SIDE, SIDE)), ((),))
        self.assertEqual(stray(("row", SIDE, 0), NONE), ((),))

    def test_none_is_told_alone_in_a_tuple(self):
        self.assertEqual(stray(NONE, DIGIT), (None,))
        self.assertIsNone(stray(NONE, NONE))

    def test_by_counting_out(self):
        def ask(one, ones, other, others):
            told = stray(one, other)
            self.assertIs(within(one, other), ones <= others, (one, other))
            if ones <= others:
                self.assertIsNone(told, (one, other))
            else:
                self.assertIsInstance(told, tuple)
                self.assertEqual(len(told), 1)
                self.assertIn(told[0], ones - others, (one, other))
        two_and_two(ask)

    def test_great_kinds(self):
        one = rows_around(WIDEST, 6, 9)
        other = rows_around(("number", -999999, 1000000), 6, 9)
        self.assertIs(within(other, one), True)
        told = stray(one, other)
        self.assertTrue(is_value(one, told[0]))
        self.assertFalse(is_value(other, told[0]))
        tree = nested(DIGIT, 6, lambda inner: ("pair", inner, inner))
        self.assertIs(within(tree, rows_around(WIDEST, 6, 2)), True)
        self.assertIs(within(tree, rows_around(("number", 0, 8), 6, 2)), False)

    def test_kinds_beyond_the_bounds(self):
        self.assertIs(within(("number", -3000000, 5), ("number", -4000000, 5)), True)
        self.assertEqual(stray(("number", 0, 3000000), WIDEST), (3000000,))
        self.assertEqual(stray(("row", NONE, 14), ("row", NONE, 12)), ((None,) * 13,))
        self.assertIs(within(rows_around(DIGIT, 8), rows_around(WIDEST, 8)), True)
        self.assertIs(within(rows_around(WIDEST, 8), rows_around(DIGIT, 8)), False)


class Shared(KindCase):
    def test_same_sorts(self):
        self.assertEqual(shared(NONE, NONE), NONE)
        self.assertEqual(shared(("number", 1, 5), ("number", 4, 9)), ("number", 4, 5))
        self.assertEqual(shared(("number", 1, 4), ("number", 4, 9)), ("number", 4, 4))
        self.assertIsNone(shared(("number", 1, 3), ("number", 4, 9)))
        self.assertEqual(shared(("name", ("a", "b", "c")), ("name", ("b", "c", "d"))), ("name", ("b", "c")))
        self.assertIsNone(shared(("name", ("a", "b")), ("name", ("c", "d"))))

    def test_unlike_sorts(self):
        kinds = (NONE, DIGIT, SIDE, ("pair", NONE, NONE), ("row", NONE, 1))
        for one in kinds:
            for other in kinds:
                if one != other:
                    self.assertIsNone(shared(one, other), (one, other))

    def test_pairs_and_rows(self):
        pair = ("pair", ("number", 1, 5), ("number", 3, 9))
        row = ("row", ("number", 4, 7), 2)
        for told in (shared(pair, row), shared(row, pair)):
            self.assertTrue(is_kind(told))
            self.assertEqual(sorted(values_of(told)), sorted(set(values_of(pair)) & set(values_of(row))))
        self.assertIsNone(shared(pair, ("row", DIGIT, 1)))
        self.assertIsNone(shared(("row", DIGIT, 0), pair))

    def test_the_empty_tuple_alone(self):
        for one, other in ((("row", SIDE, 4), ("row", DIGIT, 3)), (("row", SIDE, 0), ("row", SIDE, 3))):
            told = shared(one, other)
            self.assertTrue(is_kind(told))
            self.assertEqual(values_of(told), [()])

    def test_by_counting_out(self):
        def ask(one, ones, other, others):
            told = shared(one, other)
            if ones & others:
                self.assertIs(is_kind(told), True, (one, other, told))
                self.assertEqual(frozenset(values_of(told)), ones & others, (one, other))
            else:
                self.assertIsNone(told, (one, other))
        two_and_two(ask)

    def test_what_is_shared_lies_no_deeper(self):
        told = shared(rows_around(DIGIT, 6, 3), rows_around(SIDE, 6, 2))
        self.assertTrue(is_kind(told))
        tree = nested(DIGIT, 6, lambda inner: ("pair", inner, inner))
        told = shared(tree, rows_around(("number", 5, 20), 6, 4))
        self.assertEqual(told, nested(("number", 5, 9), 6, lambda inner: ("pair", inner, inner)))

    def test_kinds_beyond_the_bounds(self):
        self.assertEqual(shared(("number", -3000000, 5), ("number", -2000000, 9)), ("number", -2000000, 5))
        self.assertEqual(shared(("row", NONE, 14), ("row", NONE, 12)), ("row", NONE, 12))
        self.assertEqual(shared(rows_around(DIGIT, 8), rows_around(WIDEST, 8)), rows_around(DIGIT, 8))


class HowMany(KindCase):
    def test_each_sort(self):
        self.assertEqual(how_many(NONE), 1)
        self.assertEqual(how_many(("number", -2, 3)), 6)
        self.assertEqual(how_many(("number", 4, 4)), 1)
        self.assertEqual(how_many(("name", ("a", "b", "c"))), 3)
        self.assertEqual(how_many(("pair", DIGIT, SIDE)), 20)
        self.assertEqual(how_many(("row", SIDE, 3)), 1 + 2 + 4 + 8)
        self.assertEqual(how_many(("row", NONE, 9)), 10)
        self.assertEqual(how_many(("row", DIGIT, 0)), 1)

    def test_by_counting_out(self):
        for kind in small_kinds() + EMPTY_KINDS:
            self.assertEqual(how_many(kind), len(set(values_of(kind))), kind)

    def test_great_ones(self):
        self.assertEqual(how_many(WIDEST), 2000001)
        self.assertEqual(how_many(("pair", WIDEST, WIDEST)), 2000001 ** 2)
        tree = nested(WIDEST, 6, lambda inner: ("pair", inner, inner))
        self.assertEqual(how_many(tree), 2000001 ** 64)
        count = 2000001
        for levels in range(1, 4):
            count = sum(count ** length for length in range(10))
            self.assertEqual(how_many(rows_around(WIDEST, levels, 9)), count)

    def test_rows_six_deep(self):
        # The count has hundreds of thousands of digits: what it leaves behind two primes is looked at.
        told = how_many(rows_around(SIDE, 6, 9))
        for prime in (1000003, 2147483647):
            count = 2
            for level in range(6):
                count = sum(pow(count, length, prime) for length in range(10)) % prime
            self.assertEqual(told % prime, count)

    def test_kinds_beyond_the_bounds(self):
        self.assertEqual(how_many(("number", -3000000, 3000000)), 6000001)
        self.assertEqual(how_many(("row", SIDE, 12)), 2 ** 13 - 1)
        self.assertEqual(how_many(rows_around(NONE, 9)), 10)


class FirstValue(KindCase):
    def test_each_sort(self):
        self.assertIsNone(first_value(NONE))
        self.assertEqual(first_value(("number", -2, 3)), -2)
        self.assertEqual(first_value(("name", ("b", "c"))), "b")
        self.assertEqual(first_value(("pair", ("number", 7, 9), SIDE)), (7, "lef"))
        self.assertEqual(first_value(("row", DIGIT, 3)), ())
        self.assertEqual(first_value(("row", DIGIT, 0)), ())

    def test_deep_ones(self):
        self.assertEqual(first_value(("pair", ("pair", NONE, DIGIT), ("row", SIDE, 2))), ((None, 0), ()))
        tree = nested(SIDE, 6, lambda inner: ("pair", inner, inner))
        self.assertEqual(first_value(tree), nested("lef", 6, lambda inner: (inner, inner)))

    def test_it_is_a_value(self):
        for kind in small_kinds():
            self.assertIs(is_value(kind, first_value(kind)), True, kind)

    def test_kinds_beyond_the_bounds(self):
        self.assertEqual(first_value(("number", -3000000, 0)), -3000000)
        self.assertEqual(first_value(("pair", ("name", ("long",)), ("row", NONE, 20))), ("long", ()))


class AllThatIsTold(KindCase):
    def test_tuples_and_no_lists(self):
        kinds = small_kinds()[::3]
        for one in kinds:
            self.assertTrue(is_plain(first_value(one)))
            for other in kinds:
                self.assertTrue(is_plain(stray(one, other)), (one, other))
                self.assertTrue(is_plain(shared(one, other)), (one, other))

    def test_the_same_is_told_again(self):
        kinds = small_kinds()[::5]
        for ask in (within, stray, shared):
            first = [ask(one, other) for one in kinds for other in kinds]
            again = [ask(one, other) for one in kinds for other in kinds]
            self.assertEqual(first, again)
        for ask in (how_many, first_value, is_kind):
            self.assertEqual([ask(kind) for kind in kinds], [ask(kind) for kind in kinds])

    def test_what_is_handed_in_is_not_changed(self):
        thing = ["row", [["none"], ("name", ["b", "a"])], [3, None, True]]
        kept = copy.deepcopy(thing)
        is_kind(thing)
        is_kind(("row", thing, 2))
        is_kind(("name", thing))
        for kind in (NONE, DIGIT, SIDE, ("pair", NONE, NONE), ("row", SIDE, 5)):
            is_value(kind, thing)
            is_value(kind, (thing, thing))
        self.assertEqual(thing, kept)


if __name__ == "__main__":
    unittest.main()
