"""Several ways: at least and at most, settle, undo, what's sold by some ways only."""

import unittest

from tests.helper import last, run, text_of

HOUSE = ["lot a", "lot b", "bag p", "silo q", "bag r"]
P, Q, R = 0, 1, 2
A, B = 0, 1


def store(*entries):
    return ("store", text_of(*HOUSE, *entries))


class Bounds(unittest.TestCase):
    def test_one_entry_with_one_to_four_deeds(self):
        deeds = ["come a 4 to p", "come a 7 to p", "come b 5 to p", "come a 2 to q"]
        expected = {1: [0, 4, 1, 4, 1], 2: [0, 4, 1, 7, 1], 3: [0, 0, 1, 7, 1], 4: [0, 0, 1, 7, 1]}
        for many in (1, 2, 3, 4):
            given = run(store(" or ".join(deeds[:many])), ("place", P, A), ("kilos", Q))
            self.assertEqual(given[0], [0, 2, 3, 1, many])
            self.assertEqual(given[1], expected[many])
            self.assertEqual(given[2], [0, 0, 1, 2 if many == 4 else 0, 1])

    def test_fractions_are_compared_exactly(self):
        # 2 of 6, of 7 and of 5 kilograms are a's.
        given = run(store("come a 2 to p", "come b 4 to p or come b 5 to p or come b 3 to p", "sell 1 from p"),
                    ("trace", 0, A), ("share", 0, B), ("place", P, A))
        self.assertEqual(given[1:], [[0, 2, 7, 2, 5], [0, 3, 5, 5, 7], [0, 8, 5, 12, 7]])

    def test_least_and_greatest_are_of_one_thing_each(self):
        given = run(store("come a 10 to p", "come b 10 to q", "move 5 from p to r or move 8 from q to r"),
                    ("kilos", R), ("place", R, A), ("place", R, B), ("place", P, A), ("place", Q, B))
        self.assertEqual(given[1:], [[0, 5, 1, 8, 1], [0, 0, 1, 5, 1], [0, 0, 1, 8, 1], [0, 5, 1, 10, 1],
                                     [0, 2, 1, 10, 1]])

    def test_deed_that_cannot_be_by_some_ways(self):
        # Only where 5 came can 5 be sold, so that 2 came and 5 were sold is no way.
        given = run(store("come a 2 to p or come a 5 to p", "sell 5 from p or sell 1 from p"),
                    ("kilos", P), ("trace", 0, A))
        self.assertEqual(given, [[0, 2, 3, 2, 3], [0, 0, 1, 4, 1], [0, 1, 1, 5, 1]])

    def test_later_deeds_rule_out_earlier_ones(self):
        given = run(store("come a 2 to p or come a 5 to p", "sell 4 from p"), ("worlds",), ("kilos", P))
        self.assertEqual(given[1:], [[0, 2, 3, 2, 1], [0, 1, 1, 1, 1]])

    def test_deed_that_cannot_be_by_all_ways(self):
        given = run(store("come a 2 to p or come a 5 to p"), ("more", "sell 6 from p"), ("worlds",))
        self.assertEqual(given[1:], [[1, 6], [0, 2, 3, 1, 2]])
        given = run(store("come a 2 to p or come a 5 to p"), ("more", "sell 6 from p or sell 1 from p"))
        self.assertEqual(given[1], [0, 2, 3, 2, 2])

    def test_worlds_counts_choices_not_outcomes(self):
        self.assertEqual(last(store("come a 1 to p or come a 2 to p", "come a 2 to p or come a 1 to p"),
                              ("worlds",)), [0, 2, 3, 2, 4])

    def test_sixty_four_ways_of_forty_entries(self):
        entries = ["come a 9 to p or come b 9 to p"] * 6 + ["move 7 from p to q", "weigh q 5"] * 17
        # 7 of 54 kilograms are moved seven times; the eighth move, the 21st entry, can't be.
        self.assertEqual(last(store(*entries)), [1, len(HOUSE) + 21, 6])
        entries = ["come a 9 to p or come b 9 to p"] * 6 + ["move 1 from p to q", "come a 1 to p"] * 17
        given = run(store(*entries), ("kilos", Q), ("kilos", P), ("more", "sell 5 from q"))
        self.assertEqual(given[:3], [[0, 2, 3, 40, 64], [0, 17, 1, 17, 1], [0, 54, 1, 54, 1]])
        self.assertEqual(given[3], [1, 4])


class Sold(unittest.TestCase):
    def test_sold_tells_at_most_first(self):
        given = run(store("come a 9 to p", "sell 1 from p or waste 1 from p", "sell 2 from p or waste 2 from p"),
                    ("sold",))
        self.assertEqual(given[1], [0, 2, 0])

    def test_nothing_sold_by_some_way_has_nothing(self):
        given = run(store("come a 9 to p", "sell 1 from p or waste 1 from p", "sell 2 from p or waste 2 from p"),
                    ("trace", 0, A), ("trace", 1, A), ("trace", 2, A), ("share", 0, A), ("share", 1, A),
                    ("share", 1, B), ("share", 2, A))
        self.assertEqual(given[1:], [[0, 0, 1, 2, 1], [0, 0, 1, 2, 1], [-2], [0, 0, 1, 1, 1], [0, 0, 1, 1, 1],
                                     [0, 0, 1, 0, 1], [-2]])

    def test_numbers_go_by_the_order_of_each_way(self):
        # By the second way the sale from q is the first one.
        given = run(store("come a 9 to p", "come b 9 to q", "sell 1 from p or waste 1 from p", "sell 3 from q"),
                    ("sold",), ("trace", 0, A), ("trace", 0, B), ("trace", 1, B), ("share", 0, B))
        self.assertEqual(given[1:], [[0, 2, 1], [0, 0, 1, 1, 1], [0, 0, 1, 3, 1], [0, 0, 1, 3, 1], [0, 0, 1, 1, 1]])

    def test_nothing_sold_at_all(self):
        given = run(store("come a 9 to p"), ("sold",), ("trace", 0, A), ("share", 0, A))
        self.assertEqual(given[1:], [[0, 0, 0], [-2], [-2]])


class Settle(unittest.TestCase):
    OPEN = ["come a 2 to p or come a 5 to p or come b 3 to p", "come b 1 to q", "sell 2 from p or sell 1 from q"]

    def test_just_the_ways_with_that_deed_are_left(self):
        whole = run(store(*self.OPEN), ("place", P, A), ("trace", 0, A))
        self.assertEqual(whole, [[0, 2, 3, 3, 6], [0, 0, 1, 5, 1], [0, 0, 1, 2, 1]])
        given = run(store(*self.OPEN), ("settle", 0, 1), ("place", P, A), ("settle", 2, 0), ("place", P, A),
                    ("print",))
        self.assertEqual(given[1:5], [[0, 2, 3, 3, 2], [0, 3, 1, 5, 1], [0, 2, 3, 3, 1], [0, 3, 1, 3, 1]])
        text = text_of(*HOUSE, "come a 5 to p", "come b 1 to q", "sell 2 from p")
        self.assertEqual(given[5], [0] + [ord(sign) for sign in text])

    def test_settled_is_as_if_told_with_that_deed(self):
        questions = [("place", i, l) for i in range(3) for l in range(2)] + [("sold",), ("trace", 0, A), ("print",)]
        for entry in (0, 2):
            deeds = self.OPEN[entry].split(" or ")
            for choice, deed in enumerate(deeds):
                told = self.OPEN[:entry] + [deed] + self.OPEN[entry + 1:]
                self.assertEqual(run(store(*self.OPEN), ("settle", entry, choice), *questions)[1:],
                                 run(store(*told), *questions), (entry, choice))

    def test_settled_entry_has_one_deed(self):
        given = run(store(*self.OPEN), ("settle", 0, 2), ("settle", 0, 2), ("settle", 0, 1), ("settle", 0, 0))
        self.assertEqual(given[1:], [[0, 2, 3, 3, 2], [-2], [-2], [0, 2, 3, 3, 2]])

    def test_entry_with_one_deed_may_be_settled(self):
        self.assertEqual(last(store(*self.OPEN), ("settle", 1, 0)), [0, 2, 3, 3, 6])

    def test_out_of_range(self):
        for entry, choice in ((-1, 0), (3, 0), (0, -1), (0, 3), (1, 1), (1000000, 0), (0, -1000000), (-3, 0)):
            given = run(store(*self.OPEN), ("settle", entry, choice), ("worlds",), ("print",))
            self.assertEqual(given[1], [-2], (entry, choice))
            self.assertEqual(given[2:], run(store(*self.OPEN), ("worlds",), ("print",))[1:])
        self.assertEqual(last(("store", ""), ("settle", 0, 0)), [-2])

    def test_no_way_would_be_left(self):
        entries = ["come a 2 to p or come a 5 to p", "sell 4 from p or sell 9 from p"]
        for entry, choice in ((0, 0), (1, 1)):
            given = run(store(*entries), ("settle", entry, choice), ("worlds",), ("print",), ("undo",))
            self.assertEqual(given[1:], [[-6]] + run(store(*entries), ("worlds",), ("print",), ("undo",))[1:])
        self.assertEqual(last(store(*entries), ("settle", 0, 2)), [-2])
        self.assertEqual(last(store(*entries), ("settle", 0, 1)), [0, 2, 3, 2, 1])

    def test_settling_makes_room_for_ways(self):
        two = "come a 1 to p or come a 2 to p"
        given = run(store(*[two] * 6), ("more", two), ("settle", 3, 1), ("more", two), ("more", two))
        self.assertEqual(given[1:], [[1, 7], [0, 2, 3, 6, 32], [0, 2, 3, 7, 64], [1, 7]])


class Undo(unittest.TestCase):
    def test_last_entry_is_gone(self):
        given = run(store("come a 2 to p", "sell 1 from p or waste 2 from p"), ("undo",), ("kilos", P), ("sold",),
                    ("undo",), ("kilos", P), ("undo",), ("worlds",))
        self.assertEqual(given[1:], [[0, 2, 3, 1, 1], [0, 2, 1, 2, 1], [0, 0, 0], [0, 2, 3, 0, 1], [0, 0, 1, 0, 1],
                                     [-3], [0, 2, 3, 0, 1]])

    def test_ways_that_the_last_entry_ruled_out_are_back(self):
        given = run(store("come a 2 to p or come a 5 to p", "sell 4 from p"), ("undo",), ("kilos", P))
        self.assertEqual(given[1:], [[0, 2, 3, 1, 2], [0, 2, 1, 5, 1]])

    def test_what_was_settled_stays_settled(self):
        given = run(store("come a 2 to p or come a 5 to p or come a 7 to p", "sell 1 from p or sell 4 from p"),
                    ("settle", 0, 0), ("undo",), ("kilos", P), ("undo",), ("more", "come b 3 to p"), ("place", P, A))
        self.assertEqual(given, [[0, 2, 3, 2, 5], [0, 2, 3, 2, 1], [0, 2, 3, 1, 1], [0, 2, 1, 2, 1],
                                 [0, 2, 3, 0, 1], [0, 2, 3, 1, 1], [0, 0, 1, 0, 1]])

    def test_settled_last_entry_is_undone(self):
        given = run(store("come a 2 to p or come a 5 to p", "sell 2 from p or sell 4 from p"), ("settle", 1, 1),
                    ("undo",), ("kilos", P), ("more", "sell 2 from p or sell 4 from p"))
        self.assertEqual(given, [[0, 2, 3, 2, 3], [0, 2, 3, 2, 1], [0, 2, 3, 1, 2], [0, 2, 1, 5, 1],
                                 [0, 2, 3, 2, 3]])

    def test_lots_and_places_are_not_undone(self):
        self.assertEqual(run(store(), ("undo",), ("worlds",))[1:], [[-3], [0, 2, 3, 0, 1]])

    def test_undone_makes_room_for_an_entry(self):
        given = run(store(*["come a 1 to p"] * 40), ("more", "come a 1 to p"), ("undo",), ("more", "come b 1 to p"),
                    ("more", "come b 1 to p"), ("place", P, A))
        self.assertEqual(given[1:], [[1, 4], [0, 2, 3, 39, 1], [0, 2, 3, 40, 1], [1, 4], [0, 39, 1, 39, 1]])


if __name__ == "__main__":
    unittest.main()
