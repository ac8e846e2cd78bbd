"""Point 2 and keptpairs/pairs.py."""

import unittest

from keptpairs.errors import InvalidPair
from keptpairs.pairs import KINDS, READS, WRITES, Pairs

EVERY = [(first, second) for first in ("read", "acquire", "write", "release")
         for second in ("read", "acquire", "write", "release")]

NO_PAIRS = [
    ["read", "write"],
    ("read",),
    (),
    ("read", "write", "read"),
    ("read", "wrote"),
    ("wrote", "read"),
    ("Read", "write"),
    ("read", ""),
    ("full", "read"),
    ("read", "full"),
    ("read", None),
    (["read"], "write"),
    ("read", {}),
    "read",
    "rw",
    None,
    7,
    10 ** 5000,
    True,
    {"read": "write"},
]


class KindsTest(unittest.TestCase):

    def test_the_kinds_in_their_order(self):
        self.assertEqual(READS, ("read", "acquire"))
        self.assertEqual(WRITES, ("write", "release"))
        self.assertEqual(KINDS, ("read", "acquire", "write", "release"))
        for kinds in (READS, WRITES, KINDS):
            self.assertIs(type(kinds), tuple)


class PairsTest(unittest.TestCase):

    def test_none_given(self):
        for pairs in (Pairs(), Pairs([]), Pairs(()), Pairs(pairs=[])):
            self.assertEqual(len(pairs), 0)
            self.assertEqual(list(pairs), [])
            self.assertNotIn(("read", "read"), pairs)

    def test_all_sixteen(self):
        pairs = Pairs(EVERY[::-1])
        self.assertEqual(len(pairs), 16)
        self.assertEqual(list(pairs), EVERY)
        for pair in EVERY:
            self.assertIn(pair, pairs)

    def test_each_alone(self):
        for pair in EVERY:
            pairs = Pairs((pair,))
            self.assertEqual(list(pairs), [pair])
            self.assertEqual([other for other in EVERY if other in pairs], [pair])

    def test_iteration_is_by_the_first_kind_then_by_the_second(self):
        given = [("release", "read"), ("write", "acquire"), ("write", "read"), ("read", "release"),
                 ("acquire", "write"), ("read", "write")]
        expected = [("read", "write"), ("read", "release"), ("acquire", "write"), ("write", "read"),
                    ("write", "acquire"), ("release", "read")]
        self.assertEqual(list(Pairs(given)), expected)
        self.assertEqual(list(Pairs(tuple(given[::-1]))), expected)
        pairs = Pairs(given)
        self.assertEqual([list(pairs), list(pairs)], [expected, expected])

    def test_duplicates_count_once(self):
        pairs = Pairs([("read", "write"), ("write", "read"), ("read", "write"), ("read", "write")])
        self.assertEqual(len(pairs), 2)
        self.assertEqual(list(pairs), [("read", "write"), ("write", "read")])
        self.assertEqual(pairs, Pairs([("write", "read"), ("read", "write")]))

    def test_in(self):
        pairs = Pairs([("read", "write")])
        self.assertIs(("read", "write") in pairs, True)
        self.assertIs(("write", "read") in pairs, False)
        self.assertIs(("write", "read") not in pairs, True)

    def test_what_is_passed_may_change_afterwards(self):
        given = [("read", "write")]
        pairs = Pairs(given)
        self.assertEqual(given, [("read", "write")])
        given.append(("write", "write"))
        given[0] = ("acquire", "read")
        self.assertEqual(list(pairs), [("read", "write")])

    def test_equality(self):
        one = Pairs([("read", "write"), ("write", "read")])
        same = Pairs((("write", "read"), ("read", "write")))
        less = Pairs([("read", "write")])
        other = Pairs([("read", "write"), ("write", "write")])
        self.assertIs(one == same, True)
        self.assertIs(one != same, False)
        for unlike in (less, other, Pairs()):
            self.assertIs(one == unlike, False)
            self.assertIs(unlike == one, False)
            self.assertIs(one != unlike, True)
        self.assertIs(Pairs() == Pairs([]), True)
        self.assertIs(one == list(one), False)
        self.assertIs(one == tuple(one), False)
        self.assertIs(one == None, False)  # noqa: E711

    def test_within(self):
        small = Pairs([("read", "write")])
        large = Pairs([("read", "write"), ("write", "read")])
        aside = Pairs([("read", "write"), ("write", "write")])
        self.assertIs(small <= large, True)
        self.assertIs(large <= small, False)
        self.assertIs(large <= Pairs(list(large)), True)
        self.assertIs(large <= aside, False)
        self.assertIs(aside <= large, False)
        self.assertIs(Pairs() <= Pairs(), True)
        self.assertIs(Pairs() <= small, True)
        self.assertIs(small <= Pairs(), False)
        self.assertIs(Pairs(EVERY) <= Pairs(EVERY), True)

    def test_and_or_without(self):
        left = Pairs([("read", "write"), ("write", "read"), ("acquire", "read")])
        right = Pairs([("write", "read"), ("release", "release")])
        self.assertEqual(list(left & right), [("write", "read")])
        self.assertEqual(list(left | right), [("read", "write"), ("acquire", "read"), ("write", "read"),
                                              ("release", "release")])
        self.assertEqual(list(left - right), [("read", "write"), ("acquire", "read")])
        self.assertEqual(list(right - left), [("release", "release")])
        for pairs in (left & right, left | right, left - right):
            self.assertIs(type(pairs), Pairs)

    def test_and_or_without_against_sets(self):
        some = [set(EVERY[k::3] + EVERY[k:k + 3]) for k in range(3)] + [set(), set(EVERY)]
        for left in some:
            for right in some:
                a, b = Pairs(list(left)), Pairs(list(right))
                self.assertEqual(set(a & b), left & right)
                self.assertEqual(set(a | b), left | right)
                self.assertEqual(set(a - b), left - right)
                self.assertEqual(len(a | b), len(left | right))
                self.assertEqual(a <= b, left <= right)
                self.assertEqual(a == b, left == right)
                self.assertEqual((set(a), set(b)), (left, right))

    def test_the_results_are_new(self):
        one = Pairs([("read", "write")])
        for pairs in (one & one, one | one, one - Pairs(), one | Pairs()):
            self.assertIsNot(pairs, one)
            self.assertEqual(pairs, one)

    def test_signs_with_something_else(self):
        one = Pairs([("read", "write")])
        for work in (lambda: one <= [], lambda: one & [], lambda: one | [], lambda: one - []):
            with self.assertRaises(TypeError):
                work()


class InvalidPairTest(unittest.TestCase):

    def test_each_item_that_is_no_pair(self):
        for k, item in enumerate(NO_PAIRS):
            with self.subTest(k):
                with self.assertRaises(InvalidPair) as caught:
                    Pairs([("read", "write"), item])
                self.assertIs(caught.exception.pair, item)

    def test_the_first_item_is_told(self):
        with self.assertRaises(InvalidPair) as caught:
            Pairs([("read", "read"), ("read", "full"), None, ("read", "write")])
        self.assertEqual(caught.exception.pair, ("read", "full"))
        with self.assertRaises(InvalidPair) as caught:
            Pairs((["read", "write"], ("read", "full")))
        self.assertEqual(caught.exception.pair, ["read", "write"])

    def test_a_repeated_pair_ahead_of_it(self):
        with self.assertRaises(InvalidPair) as caught:
            Pairs([("read", "read"), ("read", "read"), 3])
        self.assertEqual(caught.exception.pair, 3)


class ProductTest(unittest.TestCase):

    def test_all_pairs(self):
        self.assertEqual(Pairs.product(KINDS, KINDS), Pairs(EVERY))
        self.assertEqual(list(Pairs.product(WRITES, READS)), [("write", "read"), ("write", "acquire"),
                                                              ("release", "read"), ("release", "acquire")])
        self.assertEqual(list(Pairs.product(["acquire"], ("release", "read"))),
                         [("acquire", "read"), ("acquire", "release")])

    def test_duplicates(self):
        pairs = Pairs.product(["write", "read", "write"], ["read", "read"])
        self.assertEqual(list(pairs), [("read", "read"), ("write", "read")])
        self.assertEqual(len(pairs), 2)

    def test_nothing(self):
        self.assertEqual(Pairs.product([], KINDS), Pairs())
        self.assertEqual(Pairs.product(KINDS, ()), Pairs())

    def test_lists_are_left_alone(self):
        firsts, seconds = ["write", "read"], ["read", "acquire"]
        pairs = Pairs.product(firsts, seconds)
        self.assertEqual((firsts, seconds), (["write", "read"], ["read", "acquire"]))
        firsts.clear()
        seconds.append("release")
        self.assertEqual(len(pairs), 4)

    def test_the_answer_is_a_pairs(self):
        self.assertIs(type(Pairs.product(READS, READS)), Pairs)
