"""ask, surely and unsettled: what is open, and which answer would settle most."""

import unittest

from tests.helper import last, run, text_of

HOUSE = ["lot a", "lot b", "lot c", "bag p", "silo q", "bag r"]
A, B, C = 0, 1, 2

# Sold of a, of 2 kilograms: 1 or 2/3 if 2 of a came, 3/2 or 6/5 if 6 came.
A_FIRST = ["come a 2 to p or come a 6 to p", "come b 2 to p or come b 4 to p", "sell 2 from p"]


def store(*entries):
    return ("store", text_of(*HOUSE, *entries))


class Ask(unittest.TestCase):
    def check(self, entries, k, lot, expected):
        self.assertEqual(last(store(*entries), ("ask", k, lot)), [0] + expected, (entries, k, lot))

    def test_the_entry_that_leaves_the_least_open_at_worst(self):
        self.assertEqual(run(store(*A_FIRST), ("trace", 0, A))[1], [0, 2, 3, 3, 2])
        self.check(A_FIRST, 0, A, [0, 1, 3])
        self.check([A_FIRST[1], A_FIRST[0], A_FIRST[2]], 0, A, [1, 1, 3])
        self.check(A_FIRST, 0, B, [0, 1, 3])

    def test_worst_deed_counts_not_the_best_one(self):
        entries = ["come a 1 to p or come a 9 to p", "come a 5 to r", "sell 5 from r or move 1 from r to r",
                   "sell 1 from p or sell 9 from p"]
        # By the ways the first sold has 5, 1, 5, 5, 1, 9. Entry 2 leaves nothing at best, but 8 at worst.
        self.assertEqual(last(store(*entries), ("worlds",)), [0, 3, 3, 4, 6])
        self.check(entries, 0, A, [3, 4, 1])

    def test_entries_with_one_deed_are_not_told(self):
        entries = ["come b 9 to p", "come a 5 to p", "move 1 from p to r or move 2 from p to r", "sell 7 from p"]
        self.check(entries, 0, A, [2, 0, 1])
        self.check(["come a 5 to p", "sell 1 from p"], 0, A, [-1])
        self.check(["come a 5 to p", "sell 1 from p", "sell 2 from p"], 1, B, [-1])

    def test_of_several_as_good_the_first(self):
        others = ["come b 1 to q or come b 2 to q", "come c 1 to q or come c 2 to q"]
        self.check(["come a 5 to p", "sell 3 from p"] + others, 0, A, [2, 0, 1])
        self.check(others + ["come a 5 to p", "sell 3 from p"], 0, A, [0, 0, 1])
        two = ["come a 1 to p or come a 2 to p", "come a 2 to p or come a 1 to p", "come b 3 to p", "sell 3 from p"]
        # By the ways 3/2, 6/5, 12/7, 3/2: either entry leaves 6/5 to 3/2 open at worst.
        self.assertEqual(last(store(*two), ("trace", 0, A)), [0, 6, 5, 12, 7])
        self.check(two, 0, A, [0, 3, 10])

    def test_deeds_that_no_way_has_are_not_counted(self):
        # 50 can't be moved, so that entry leaves all open that is: 1 to 4/3.
        before = ["come a 4 to p", "move 50 from p to r or move 2 from p to r"]
        self.check(before + ["come b 1 to p or come b 2 to p", "sell 2 from p"], 0, A, [2, 0, 1])
        self.check(before + ["sell 2 from p"], 0, A, [1, 0, 1])
        # The last entry leaves nothing open by its first and third deed; its second can't be.
        entries = ["come b 1 to q or come b 2 to q", "come a 4 to p",
                   "sell 1 from p or sell 9 from p or sell 2 from p"]
        self.assertEqual(last(store(*entries), ("worlds",)), [0, 3, 3, 3, 4])
        self.check(entries, 0, A, [2, 0, 1])

    def test_deed_that_later_entries_rule_out(self):
        # Once 5 are sold it's sure that 6 came; both entries leave nothing open.
        self.check(["come a 2 to p or come a 6 to p", "sell 5 from p or sell 6 from p"], 0, A, [1, 0, 1])
        self.check(["come a 2 to p or come a 6 to p", "sell 5 from p"], 0, A, [0, 0, 1])

    def test_by_some_ways_there_is_no_such_one(self):
        entries = ["come b 5 to q or come b 6 to q", "come a 5 to p", "sell 2 from p or waste 2 from p"]
        self.check(entries, 0, A, [2, 0, 1])
        self.check(entries, 0, B, [0, 0, 1])
        # The second sold is there by the first way of four only: either entry leaves 0 to 3 open.
        entries = ["come a 9 to p", "sell 2 from p or waste 2 from p", "sell 3 from p or waste 3 from p"]
        self.check(entries, 1, A, [1, 3, 1])
        # Of the first sold 2, 2, 3, 0: the first of both entries leaves 0 to 3, the other one 0 to 2.
        self.check(entries, 0, A, [2, 2, 1])

    def test_behind_settle_more_and_undo(self):
        given = run(store(*A_FIRST), ("settle", 0, 1), ("ask", 0, A), ("settle", 1, 0), ("ask", 0, A),
                    ("more", "come c 1 to p or come c 2 to p"), ("ask", 0, A), ("undo",), ("ask", 0, A))
        self.assertEqual(given[2::2], [[0, 1, 0, 1], [0, -1], [0, 3, 0, 1], [0, -1]])

    def test_refusal_is_told_ahead_of_none(self):
        for k, lot in ((-1, 0), (1, 0), (0, -1), (0, 3), (1, 3), (1000000, 0), (0, -1000000)):
            self.assertEqual(last(store("come a 5 to p", "sell 1 from p"), ("ask", k, lot)), [-2], (k, lot))
            self.assertEqual(last(store(*A_FIRST), ("ask", k, lot)), [-2], (k, lot))
        self.assertEqual(last(store("come a 5 to p or come a 6 to p"), ("ask", 0, 0)), [-2])


class Surely(unittest.TestCase):
    def check(self, entries, expected):
        given = run(store(*entries), *[("surely", k, lot) for k, lot, sure in expected])
        self.assertEqual(given[1:], [[0, sure] for k, lot, sure in expected])

    def test_one_way(self):
        self.check(["come a 3 to q", "come b 3 to q", "come c 3 to p", "sell 2 from q", "sell 2 from q",
                    "sell 1 from p"],
                   [(0, A, 1), (0, B, 0), (0, C, 0), (1, A, 1), (1, B, 1), (1, C, 0), (2, A, 0), (2, C, 1)])

    def test_several_ways(self):
        self.check(["come a 3 to p or come a 4 to p", "come b 3 to p or come b 3 to r", "sell 2 from p"],
                   [(0, A, 1), (0, B, 2), (0, C, 0)])

    def test_by_some_ways_there_is_no_such_one(self):
        self.check(["come a 9 to p", "sell 1 from p or waste 1 from p", "sell 1 from p"],
                   [(0, A, 1), (1, A, 2), (1, B, 0)])

    def test_very_little_is_some(self):
        self.check(["come a 1 to p"] + ["come b 9999 to p", "waste 9999 from p"] * 5 + ["sell 1 from p"],
                   [(0, A, 1), (0, B, 1), (0, C, 0)])

    def test_settled_it_is_sure(self):
        given = run(store("come a 3 to p or come b 3 to p", "sell 2 from p"), ("surely", 0, A), ("settle", 0, 0),
                    ("surely", 0, A), ("surely", 0, B))
        self.assertEqual(given[1:], [[0, 2], [0, 3, 3, 2, 1], [0, 1], [0, 0]])


class Unsettled(unittest.TestCase):
    def test_entries_with_two_deeds_or_more(self):
        entries = ["come a 9 to p", "sell 1 from p or sell 2 from p", "come b 1 to q",
                   "sell 1 from p or waste 1 from p or weigh p 5 or move 1 from p to q",
                   "sell 1 from p or waste 1 from p or weigh p 4"]
        given = run(store(*entries), ("unsettled",), ("settle", 3, 2), ("unsettled",), ("undo",), ("unsettled",),
                    ("settle", 1, 0), ("unsettled",))
        self.assertEqual(given[1::2], [[0, 1, 2, 3, 4, 4, 3], [0, 1, 2, 4, 3], [0, 1, 2], [0]])

    def test_deeds_count_even_if_no_way_has_them(self):
        self.assertEqual(run(store("come a 1 to p", "sell 1 from p or sell 2 from p"), ("unsettled",)),
                         [[0, 3, 3, 2, 1], [0, 1, 2]])

    def test_none(self):
        self.assertEqual(last(store(), ("unsettled",)), [0])
        self.assertEqual(last(store("come a 1 to p"), ("unsettled",)), [0])
        self.assertEqual(last(("store", ""), ("unsettled",)), [0])


if __name__ == "__main__":
    unittest.main()
