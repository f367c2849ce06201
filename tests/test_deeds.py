"""What each deed does to bags and silos, as place, kilos, trace and share show it."""

import unittest
from fractions import Fraction

from tests.helper import last, run, text_of

HOUSE = ["lot a", "lot b", "bag p", "bag r", "silo q", "silo s"]
P, R, Q, S = 0, 1, 2, 3
A, B = 0, 1


def one(n, d=1):
    """At least and at most of something that's known."""
    return [0, n, d, n, d]


class OneWay(unittest.TestCase):
    def check(self, entries, expected):
        """expected: pairs of a question and its answer."""
        steps = [("store", text_of(*HOUSE, *entries))]
        given = run(*steps, *[question for question, answer in expected])
        self.assertEqual(given[0], [0, 2, 4, len(entries), 1])
        for (question, answer), found in zip(expected, given[1:]):
            self.assertEqual(found, answer, question)


class Come(OneWay):
    def test_nothing_came(self):
        self.check([], [(("kilos", P), one(0)), (("kilos", Q), one(0)), (("place", P, A), one(0)),
                        (("place", S, B), one(0)), (("sold",), [0, 0, 0])])

    def test_comes_into_bag_and_silo(self):
        self.check(["come a 3 to p", "come b 4 to p", "come a 9999 to q", "come a 1 to q"],
                   [(("kilos", P), one(7)), (("place", P, A), one(3)), (("place", P, B), one(4)),
                    (("kilos", Q), one(10000)), (("place", Q, A), one(10000)), (("place", Q, B), one(0)),
                    (("kilos", R), one(0)), (("place", R, A), one(0))])


class Move(OneWay):
    def test_from_a_bag_all_is_mixed(self):
        self.check(["come a 3 to p", "come b 4 to p", "move 2 from p to r"],
                   [(("kilos", P), one(5)), (("place", P, A), one(15, 7)), (("place", P, B), one(20, 7)),
                    (("kilos", R), one(2)), (("place", R, A), one(6, 7)), (("place", R, B), one(8, 7))])

    def test_from_a_silo_the_first_goes_first(self):
        self.check(["come a 3 to q", "come b 4 to q", "move 5 from q to s"],
                   [(("place", Q, A), one(0)), (("place", Q, B), one(2)),
                    (("place", S, A), one(3)), (("place", S, B), one(2))])

    def test_order_is_kept_from_silo_to_silo(self):
        self.check(["come a 3 to q", "come b 4 to q", "move 5 from q to s", "sell 4 from s"],
                   [(("trace", 0, A), one(3)), (("trace", 0, B), one(1))])

    def test_from_silo_to_bag_is_mixed(self):
        self.check(["come a 3 to q", "come b 4 to q", "move 5 from q to p", "sell 1 from p"],
                   [(("trace", 0, A), one(3, 5)), (("trace", 0, B), one(2, 5))])

    def test_from_bag_to_silo_lies_behind(self):
        self.check(["come a 3 to q", "come b 4 to p", "move 2 from p to q", "come a 2 to q", "sell 6 from q"],
                   [(("trace", 0, A), one(4)), (("trace", 0, B), one(2)), (("place", Q, A), one(1))])

    def test_into_a_bag_with_something(self):
        self.check(["come a 3 to p", "come b 6 to r", "move 3 from r to p", "move 1 from p to r", "sell 2 from r"],
                   [(("kilos", P), one(5)), (("place", P, A), one(5, 2)), (("place", P, B), one(5, 2)),
                    (("trace", 0, A), one(1, 4)), (("trace", 0, B), one(7, 4))])

    def test_within_a_silo_the_first_part_goes_behind(self):
        self.check(["come a 3 to q", "come b 4 to q", "move 2 from q to q", "sell 5 from q"],
                   [(("trace", 0, A), one(1)), (("trace", 0, B), one(4)), (("place", Q, A), one(2))])

    def test_within_a_silo_all_of_it(self):
        self.check(["come a 3 to q", "come b 4 to q", "move 7 from q to q", "sell 4 from q"],
                   [(("trace", 0, A), one(3)), (("trace", 0, B), one(1))])

    def test_within_a_bag_nothing_changes(self):
        self.check(["come a 3 to p", "come b 4 to p", "move 2 from p to p", "move 5 from p to p", "move 7 from p to p"],
                   [(("kilos", P), one(7)), (("place", P, A), one(3)), (("place", P, B), one(4))])

    def test_all_of_a_place(self):
        self.check(["come a 3 to p", "move 3 from p to q", "move 3 from q to r"],
                   [(("kilos", P), one(0)), (("kilos", Q), one(0)), (("place", R, A), one(3))])


class Weigh(OneWay):
    def test_bag_keeps_its_green(self):
        self.check(["come a 6 to p", "come b 4 to p", "weigh p 7", "sell 2 from p"],
                   [(("kilos", P), one(5)), (("place", P, A), one(30, 7)), (("place", P, B), one(20, 7)),
                    (("trace", 0, A), one(12, 7)), (("trace", 0, B), one(8, 7)), (("share", 0, A), one(3, 5))])

    def test_silo_parts_weigh_less_by_the_same_share(self):
        # a weighs 3 * 5/7 now, b 4 * 5/7; of 3 kilograms sold, 15/7 are a and 6/7 b: 6/7 / (20/7) of b's 4.
        self.check(["come a 3 to q", "come b 4 to q", "weigh q 5", "sell 3 from q"],
                   [(("kilos", Q), one(2)), (("trace", 0, A), one(3)), (("trace", 0, B), one(6, 5)),
                    (("share", 0, A), one(5, 7)), (("share", 0, B), one(2, 7)), (("place", Q, B), one(14, 5))])

    def test_weight_may_stay(self):
        self.check(["come a 3 to q", "weigh q 3", "come a 4 to p", "weigh p 4"],
                   [(("kilos", Q), one(3)), (("kilos", P), one(4)), (("place", Q, A), one(3))])

    def test_down_to_one(self):
        self.check(["come a 9999 to q", "come b 1 to q", "weigh q 1", "sell 1 from q"],
                   [(("trace", 0, A), one(9999)), (("trace", 0, B), one(1)), (("share", 0, B), one(1, 10000))])

    def test_weighed_again_and_again(self):
        self.check(["come a 10 to q", "weigh q 9", "come b 10 to q", "weigh q 11", "weigh q 8", "sell 4 from q"],
                   [(("kilos", Q), one(4)), (("trace", 0, A), one(10)), (("trace", 0, B), one(1, 2)),
                    (("place", Q, A), one(0)), (("place", Q, B), one(19, 2))])


class SellAndWaste(OneWay):
    def test_sold_is_numbered_in_order(self):
        self.check(["come a 3 to q", "come b 3 to p", "sell 1 from p", "sell 2 from q", "sell 1 from q"],
                   [(("sold",), [0, 3, 3]), (("trace", 0, B), one(1)), (("trace", 0, A), one(0)),
                    (("trace", 1, A), one(2)), (("trace", 2, A), one(1)), (("kilos", Q), one(0))])

    def test_waste_is_gone_and_not_sold(self):
        self.check(["come a 3 to q", "come b 4 to q", "waste 4 from q", "waste 1 from q", "sell 2 from q"],
                   [(("sold",), [0, 1, 1]), (("trace", 0, A), one(0)), (("trace", 0, B), one(2)),
                    (("place", Q, A), one(0)), (("kilos", Q), one(0))])

    def test_share_is_of_green_kilograms(self):
        # The first sold has 10 green kilograms of a in 5, and 5 of b in 5.
        self.check(["come a 10 to q", "weigh q 5", "come b 5 to q", "sell 10 from q"],
                   [(("share", 0, A), one(2, 3)), (("share", 0, B), one(1, 3))])


class NotPossible(unittest.TestCase):
    def test_too_much_is_asked_of_a_place(self):
        stock = HOUSE + ["come a 5 to p", "come b 5 to q", "weigh p 3", "weigh q 3"]
        for deed in ("move %d from p to r", "move %d from q to q", "sell %d from p", "waste %d from q",
                     "weigh p %d", "weigh q %d", "move %d from p to p"):
            self.assertEqual(last(("store", text_of(*stock, deed % 3)))[0], 0, deed)
            self.assertEqual(last(("store", text_of(*stock, deed % 4))), [1, len(stock) + 1, 6], deed)

    def test_nothing_is_there(self):
        for deed in ("move 1 from p to q", "move 1 from q to q", "sell 1 from p", "waste 1 from q",
                     "weigh p 1", "weigh q 1"):
            self.assertEqual(last(("store", text_of(*HOUSE, deed))), [1, len(HOUSE) + 1, 6], deed)


class NoneIsLost(OneWay):
    """Promise 1, where no kilogram is thrown away and there's one way."""

    def test_all_that_came_is_in_places_or_sold(self):
        entries = ["come a 37 to p", "come b 41 to q", "move 11 from p to q", "weigh q 43", "move 29 from q to r",
                   "come a 5 to r", "weigh r 31", "move 17 from r to s", "sell 13 from s", "move 3 from s to q",
                   "move 4 from q to q", "sell 9 from q", "sell 5 from r"]
        steps = [("store", text_of(*HOUSE, *entries))]
        for lot, came in ((A, 42), (B, 41)):
            given = run(*steps, *[("place", i, lot) for i in range(4)], *[("trace", k, lot) for k in range(3)])
            self.assertEqual(given[0][0], 0)
            self.assertEqual(sum(Fraction(n, d) for zero, n, d, high, low in given[1:]), came)

    def test_what_is_wasted_is_what_was_there(self):
        """Thrown away or moved into a place of its own: all else is alike."""
        before = ["come a 7 to p", "come b 5 to p", "move 4 from p to q", "weigh q 3", "come a 2 to q"]
        behind = ["sell 1 from q", "sell 2 from p"]
        thrown = run(("store", text_of(*HOUSE, *before, "waste 4 from q", *behind)),
                     ("place", Q, A), ("place", P, A), ("trace", 0, A), ("trace", 1, A))
        moved = run(("store", text_of(*HOUSE, *before, "move 4 from q to r", *behind)),
                    ("place", Q, A), ("place", P, A), ("trace", 0, A), ("trace", 1, A))
        self.assertEqual(thrown, moved)


if __name__ == "__main__":
    unittest.main()
