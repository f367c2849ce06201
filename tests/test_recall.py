"""recall and enough: what is called back has, whatever was, the told share; no fewer do (promise 3)."""

import random
import unittest
from itertools import combinations

from tests.drawn import drawn_model, some_share
from tests.helper import asked, last, run, text_of

HOUSE = ["lot a", "lot b", "lot c", "bag p", "silo q"]
A, B, C = 0, 1, 2

# Sold of a: 4, 5, 1, 0; of b: 0, 0, 2, 2; of c nothing.
ONE_WAY = ["come a 10 to q", "come b 5 to q", "come c 5 to p", "sell 4 from q", "sell 5 from q", "sell 3 from q",
           "sell 2 from q"]
# By the four ways the sold are, in order: a4 a6; a4; b4 a6; b4.
FOUR_WAYS = ["come a 10 to p", "come b 10 to q", "sell 4 from p or sell 4 from q", "sell 6 from p or waste 6 from p"]


def store(*entries):
    return ("store", text_of(*HOUSE, *entries))


class Recall(unittest.TestCase):
    def check(self, entries, expected):
        """expected: pairs of lot, n, d and what is called back."""
        given = asked([store(*entries)], [("recall", *share) for share, numbers in expected])
        for (share, numbers), found in zip(expected, given):
            self.assertEqual(found, [0] + numbers, share)

    def test_the_fewest_by_one_way(self):
        self.check(ONE_WAY, [((A, 1, 1000), [0]), ((A, 4, 10), [0]), ((A, 41, 100), [1]), ((A, 1, 2), [1]),
                             ((A, 6, 10), [0, 1]), ((A, 9, 10), [0, 1]), ((A, 901, 1000), [0, 1, 2]),
                             ((B, 1, 2), [2]), ((B, 51, 100), [2, 3])])

    def test_nothing_and_all_of_the_share(self):
        self.check(ONE_WAY, [((A, 0, 1), []), ((A, 0, 1000), []), ((B, 0, 7), []), ((A, 1, 1), [0, 1, 2]),
                             ((A, 1000, 1000), [0, 1, 2]), ((B, 3, 3), [2, 3])])

    def test_lot_of_which_nothing_was_sold(self):
        self.check(ONE_WAY, [((C, 0, 1), []), ((C, 1, 2), []), ((C, 1, 1), [])])

    def test_nothing_was_sold_at_all(self):
        for entries in ([], ["come a 5 to p"], ["come a 5 to p", "waste 5 from p"]):
            self.check(entries, [((A, 0, 1), []), ((A, 1, 1), []), ((B, 1, 2), [])])

    def test_of_as_few_the_first(self):
        self.check(["come a 8 to p"] + ["sell 2 from p"] * 4,
                   [((A, 1, 4), [0]), ((A, 251, 1000), [0, 1]), ((A, 1, 2), [0, 1]), ((A, 501, 1000), [0, 1, 2]),
                    ((A, 3, 4), [0, 1, 2]), ((A, 4, 4), [0, 1, 2, 3])])

    def test_first_by_the_first_number_that_differs(self):
        # Of 9 kilograms 1, 3, 2 and 3 are sold: 0 is in none of the pairs that have 5.
        self.check(["come a 9 to p", "sell 1 from p", "sell 3 from p", "sell 2 from p", "sell 3 from p"],
                   [((A, 5, 9), [1, 2]), ((A, 6, 9), [1, 3]), ((A, 4, 9), [0, 1]), ((A, 7, 9), [0, 1, 3]),
                    ((A, 8, 9), [1, 2, 3]), ((A, 3, 9), [1])])
        # 0 3 is ahead of 1 2, as 0 is less than 1.
        self.check(["come a 12 to p", "sell 2 from p", "sell 3 from p", "sell 3 from p", "sell 4 from p"],
                   [((A, 6, 12), [0, 3]), ((A, 7, 12), [1, 3])])

    def test_share_is_of_what_was_sold_not_of_what_came(self):
        self.check(["come a 100 to p", "sell 2 from p", "sell 1 from p"], [((A, 1, 2), [0]), ((A, 1, 1), [0, 1])])

    def test_exact_thirds(self):
        self.check(["come a 1 to p", "come b 2 to p"] + ["sell 1 from p"] * 3,
                   [((A, 333, 1000), [0]), ((A, 1, 3), [0]), ((A, 334, 1000), [0, 1]), ((A, 2, 3), [0, 1]),
                    ((B, 667, 1000), [0, 1, 2])])

    def test_green_kilograms_count_not_kilograms(self):
        # The first sold has 10 green kilograms in 2; the second 4 in 4.
        self.check(["come a 10 to q", "weigh q 2", "come a 4 to q", "sell 2 from q", "sell 4 from q"],
                   [((A, 10, 14), [0]), ((A, 4, 14), [0]), ((A, 11, 14), [0, 1])])

    def test_whatever_was(self):
        self.check(FOUR_WAYS, [((A, 1, 2), [0, 1]), ((A, 2, 5), [0, 1]), ((A, 1, 1000), [0, 1]), ((A, 0, 5), []),
                               ((B, 1, 1000), [0]), ((B, 1, 1), [0])])

    def test_settled_fewer_are_needed(self):
        given = run(store(*FOUR_WAYS), ("settle", 2, 1), ("recall", A, 1, 1), ("settle", 3, 1), ("recall", A, 1, 1),
                    ("recall", B, 1, 1), ("undo",), ("undo",), ("recall", B, 1, 1))
        self.assertEqual(given[2:], [[0, 1], [0, 3, 2, 4, 1], [0], [0, 0], [0, 3, 2, 3, 1], [0, 3, 2, 2, 1], [0]])

    def test_each_way_has_its_own_share(self):
        # a1 a3 or a3 a1 are sold: three quarters need the one that's greater, so both.
        self.check(["come a 4 to p", "sell 1 from p or sell 3 from p", "sell 3 from p or sell 1 from p"],
                   [((A, 1, 4), [0]), ((A, 26, 100), [0, 1]), ((A, 3, 4), [0, 1])])


class TooManySold(unittest.TestCase):
    def test_ten_and_eleven(self):
        ten = ["come a 99 to p"] + ["sell 1 from p"] * 10
        given = run(store(*ten), ("recall", A, 1, 2), ("recall", A, 1, 1), ("more", "sell 1 from p"),
                    ("recall", A, 1, 2), ("recall", A, 0, 1), ("recall", B, 0, 1), ("undo",), ("recall", A, 3, 10))
        self.assertEqual(given[1:], [[0, 0, 1, 2, 3, 4], [0] + list(range(10)), [0, 3, 2, 12, 1], [-5], [-5], [-5],
                                     [0, 3, 2, 11, 1], [0, 0, 1, 2]])

    def test_eleven_by_one_way_of_several(self):
        entries = ["come a 99 to p"] + ["sell 1 from p"] * 10 + ["waste 1 from p or sell 1 from p"]
        given = run(store(*entries), ("sold",), ("recall", A, 1, 10), ("settle", 11, 0), ("recall", A, 1, 10))
        self.assertEqual(given[1:], [[0, 11, 10], [-5], [0, 3, 2, 12, 1], [0, 0]])

    def test_what_is_out_of_range_is_told_first(self):
        many = store("come a 99 to p", *["sell 1 from p"] * 11)
        for share in ((-1, 1, 2), (3, 1, 2), (A, -1, 2), (A, 3, 2), (A, 0, 0), (A, 1, 1001), (A, 0, -1)):
            self.assertEqual(last(many, ("recall", *share)), [-2], share)
        self.assertEqual(last(many, ("recall", A, 2, 2)), [-5])

    def test_enough_is_answered_all_the_same(self):
        many = store("come a 99 to p", *["sell 1 from p"] * 20)
        given = run(many, ("enough", A, 12, 20, range(8, 20)), ("enough", A, 13, 20, range(8, 20)),
                    ("enough", A, 1, 20, [19]), ("enough", A, 1, 20, [20]))
        self.assertEqual(given[1:], [[0, 1], [0, 0], [0, 1], [-2]])

    def test_ten_sold_by_sixty_four_ways(self):
        # Of a, each of the first six has 1 or 0 and each of the last four 2: half of 14 at most is in these.
        # Of b, each of the first six may be the only one that has some.
        entries = ["come a 20 to p", "come b 20 to q"]
        entries += ["sell 1 from p or sell 1 from q"] * 6 + ["sell 2 from p"] * 4
        self.assertEqual(run(store(*entries), ("recall", A, 1, 1), ("recall", A, 1, 2), ("recall", B, 1, 6)),
                         [[0, 3, 2, 12, 64], [0] + list(range(10)), [0, 6, 7, 8, 9], [0, 0, 1, 2, 3, 4, 5]])


class Enough(unittest.TestCase):
    def check(self, entries, expected):
        given = asked([store(*entries)], [("enough", *share, some) for share, some, good in expected])
        for (share, some, good), found in zip(expected, given):
            self.assertEqual(found, [0, good], (share, some))

    def test_by_one_way(self):
        self.check(ONE_WAY, [((A, 1, 2), [1], 1), ((A, 1, 2), [0], 0), ((A, 1, 2), [0, 2], 1), ((A, 1, 2), [2, 0], 1),
                             ((A, 1, 1), [2, 1, 0], 1), ((A, 1, 1), [1, 0, 3], 0), ((A, 1, 1), [0, 1, 2, 3], 1),
                             ((B, 1, 2), [3], 1), ((B, 1, 2), [0, 1], 0), ((A, 5, 10), [1], 1),
                             ((A, 501, 1000), [1], 0)])

    def test_one_told_twice_counts_once(self):
        self.check(ONE_WAY, [((A, 1, 2), [0, 0], 0), ((A, 1, 2), [2] * 12, 0), ((A, 1, 2), [0, 2, 0, 2], 1),
                             ((A, 1, 2), [1, 1], 1), ((A, 1, 1), [0, 1, 2] * 4, 1), ((B, 1, 1), [3, 3], 0)])

    def test_empty_row(self):
        self.check(ONE_WAY, [((A, 0, 1), [], 1), ((A, 1, 1000), [], 0), ((A, 1, 1), [], 0), ((C, 1, 1), [], 1),
                             ((C, 0, 1), [], 1)])
        self.check([], [((A, 1, 1), [], 1), ((A, 0, 3), [], 1)])

    def test_whatever_was(self):
        self.check(FOUR_WAYS, [((A, 1, 2), [0, 1], 1), ((A, 1, 2), [0], 0), ((A, 1, 2), [1], 0), ((A, 0, 2), [1], 1),
                               ((B, 1, 1), [0], 1), ((B, 1, 9), [1], 0), ((B, 1, 9), [], 0)])

    def test_way_by_which_there_is_no_such_one(self):
        # By the second way nothing of a is sold: there, nothing is enough.
        self.check(["come a 5 to p", "sell 3 from p or waste 3 from p"], [((A, 1, 1), [0], 1), ((A, 1, 1), [], 0)])

    def test_numbers_of_the_row(self):
        for some in ([-1], [4], [0, 4], [4, 0], [1, -1000000], [1000000], [0, 1, 2, 3, 4]):
            self.assertEqual(last(store(*ONE_WAY), ("enough", A, 0, 1, some)), [-2], some)
        self.assertEqual(last(store(*ONE_WAY), ("enough", A, 0, 1, [3])), [0, 1])
        self.assertEqual(last(store(*FOUR_WAYS), ("enough", B, 0, 1, [1])), [0, 1])
        self.assertEqual(last(store(*FOUR_WAYS), ("enough", B, 0, 1, [2])), [-2])
        self.assertEqual(last(store(), ("enough", A, 0, 1, [0])), [-2])


class Shares(unittest.TestCase):
    def test_ranges_of_both(self):
        good = ((0, 1), (1, 1), (0, 1000), (1000, 1000), (999, 1000), (5, 6))
        bad = ((-1, 1), (2, 1), (0, 0), (1, 0), (0, -1), (-1, -1), (0, 1001), (1001, 1000), (1001, 1001), (7, 6),
               (-1000000, 1), (1000000, 1000), (0, 1000000), (0, -1000000))
        for n, d in good:
            self.assertEqual(last(store(*ONE_WAY), ("recall", C, n, d)), [0], (n, d))
            self.assertEqual(last(store(*ONE_WAY), ("enough", C, n, d, [])), [0, 1], (n, d))
        for n, d in bad:
            self.assertEqual(last(store(*ONE_WAY), ("recall", C, n, d)), [-2], (n, d))
            self.assertEqual(last(store(*ONE_WAY), ("enough", C, n, d, [])), [-2], (n, d))

    def test_lots(self):
        for lot in (-1, 3, 1000000, -1000000):
            self.assertEqual(last(store(*ONE_WAY), ("recall", lot, 0, 1)), [-2])
            self.assertEqual(last(store(*ONE_WAY), ("enough", lot, 0, 1, [])), [-2])


class Fewest(unittest.TestCase):
    """What recall answers is enough, and neither fewer nor as few ahead of it are."""

    def test_over_drawn_stores(self):
        lengths = set()
        for seed in range(60):
            chance = random.Random(seed)
            before = [("store", drawn_model(chance, 4, 4).text())]
            lots = last(*before, ("worlds",))[1]
            most = last(*before, ("sold",))[1]
            for lot in range(lots):
                share = some_share(chance)
                back = last(*before, ("recall", lot, *share))[1:]
                lengths.add(len(back))
                self.assertEqual(back, sorted(set(back)))
                rows = list(combinations(range(most), len(back)))
                ahead = rows[:rows.index(tuple(back))]
                # If no row that's one shorter is enough, no shorter one is.
                ahead += combinations(range(most), len(back) - 1) if back else []
                given = asked(before, [("enough", lot, *share, row) for row in [back] + ahead])
                self.assertEqual(given, [[0, 1]] + [[0, 0]] * len(ahead), (before, lot, share))
        self.assertLessEqual({0, 1, 2, 3, 4}, lengths)


if __name__ == "__main__":
    unittest.main()
