"""way, inside, mass, where, find and sold_kilos: what there is by one way, and where it all is."""

import unittest

from tests.helper import asked, last, run, text_of

HOUSE = ["lot a", "lot b", "bag p", "silo q", "bag r"]
A, B = 0, 1
P, Q, R = 0, 1, 2
OPEN = ["come a 1 to p or come a 2 to p", "come b 1 to q", "sell 1 from p or sell 2 from p or sell 1 from q"]


def store(*entries):
    return ("store", text_of(*HOUSE, *entries))


def part(*amounts):
    """What inside tells of a part; an amount is a whole number or a pair."""
    numbers = []
    for amount in amounts:
        numbers += amount if isinstance(amount, tuple) else (amount, 1)
    return numbers


def all_ways(*before):
    many = last(*before, ("worlds",))[4]
    return [answer[1:] for answer in asked(before, [("way", j) for j in range(many)])]


class Way(unittest.TestCase):
    def test_all_ways_in_order(self):
        self.assertEqual(all_ways(store(*OPEN)), [[0, 0, 0], [0, 0, 2], [1, 0, 0], [1, 0, 1], [1, 0, 2]])

    def test_by_the_first_entry_ahead_of_the_second(self):
        entries = ["come a %d to p or come b %d to p or come a %d to q" % (n, n, n) for n in (1, 2)]
        self.assertEqual(all_ways(store(*entries)), [[c, e] for c in range(3) for e in range(3)])

    def test_one_way(self):
        self.assertEqual(all_ways(store()), [[]])
        self.assertEqual(all_ways(("store", "")), [[]])
        self.assertEqual(all_ways(store("come a 1 to p", "sell 1 from p")), [[0, 0]])
        self.assertEqual(all_ways(store("come a 1 to p", "sell 3 from p or sell 2 from p or sell 1 from p")), [[0, 2]])

    def test_sixty_four_ways(self):
        found = all_ways(store(*["come a 1 to p or come a 2 to p"] * 6))
        self.assertEqual(found, [[n >> place & 1 for place in (5, 4, 3, 2, 1, 0)] for n in range(64)])

    def test_settled_and_undone(self):
        before = [store(*OPEN)]
        self.assertEqual(all_ways(*before, ("settle", 0, 1)), [[0, 0, 0], [0, 0, 1], [0, 0, 2]])
        self.assertEqual(all_ways(*before, ("settle", 2, 2)), [[0, 0, 0], [1, 0, 0]])
        self.assertEqual(all_ways(*before, ("settle", 2, 1)), [[1, 0, 0]])
        self.assertEqual(all_ways(*before, ("undo",)), [[0, 0], [1, 0]])
        self.assertEqual(all_ways(*before, ("settle", 2, 1), ("undo",)), [[0, 0], [1, 0]])
        self.assertEqual(all_ways(*before, ("settle", 0, 1), ("undo",), ("undo",)), [[0]])

    def test_numbers(self):
        for entries, many in ((OPEN, 5), ([], 1), (["come a 1 to p or come a 2 to p"] * 6, 64)):
            for j in (-1000000, -1, many, many + 1, 1000000):
                self.assertEqual(last(store(*entries), ("way", j)), [-2], (many, j))
            self.assertEqual(last(store(*entries), ("way", many - 1))[0], 0)


class Inside(unittest.TestCase):
    def check(self, entries, j, i, *parts):
        self.assertEqual(last(store(*entries), ("inside", j, i)), [0] + sum(parts, []), (entries, j, i))

    def test_nothing_is_there(self):
        for place in (P, Q, R):
            self.check([], 0, place)
        self.check(["come a 3 to p", "sell 3 from p"], 0, P)
        self.check(["come a 3 to q", "come b 3 to q", "move 6 from q to p"], 0, Q)

    def test_a_bag_has_one_part(self):
        entries = ["come a 3 to p", "come b 4 to p", "weigh p 5", "move 2 from p to r", "come a 1 to r"]
        self.check(entries[:2], 0, P, part(7, 3, 4))
        self.check(entries[:3], 0, P, part(5, 3, 4))
        self.check(entries, 0, P, part(3, (9, 5), (12, 5)))
        self.check(entries, 0, R, part(3, (11, 5), (8, 5)))

    def test_a_silo_has_its_parts_in_order(self):
        entries = ["come a 3 to q", "come b 4 to q", "come a 5 to q"]
        self.check(entries, 0, Q, part(3, 3, 0), part(4, 0, 4), part(5, 5, 0))
        self.check(entries + ["sell 3 from q"], 0, Q, part(4, 0, 4), part(5, 5, 0))
        self.check(entries + ["waste 4 from q"], 0, Q, part(3, 0, 3), part(5, 5, 0))
        self.check(entries + ["weigh q 6"], 0, Q, part((3, 2), 3, 0), part(2, 0, 4), part((5, 2), 5, 0))

    def test_parts_of_one_lot_stay_apart(self):
        self.check(["come a 3 to q", "come a 4 to q"], 0, Q, part(3, 3, 0), part(4, 4, 0))

    def test_moved_within_a_silo(self):
        entries = ["come a 3 to q", "come b 4 to q", "move 2 from q to q"]
        self.check(entries, 0, Q, part(1, 1, 0), part(4, 0, 4), part(2, 2, 0))
        self.check(entries + ["weigh q 5"], 0, Q, part((5, 7), 1, 0), part((20, 7), 0, 4), part((10, 7), 2, 0))
        self.check(entries + ["move 7 from q to q"], 0, Q, part(1, 1, 0), part(4, 0, 4), part(2, 2, 0))

    def test_from_bag_to_silo_and_from_silo_to_bag(self):
        entries = ["come a 3 to p", "come b 6 to p", "come a 1 to q", "move 3 from p to q"]
        self.check(entries, 0, Q, part(1, 1, 0), part(3, 1, 2))
        self.check(entries + ["move 3 from q to r"], 0, R, part(3, (5, 3), (4, 3)))
        self.check(entries + ["move 3 from q to r"], 0, Q, part(1, (1, 3), (2, 3)))

    def test_from_silo_to_silo_parts_keep_their_order(self):
        text = text_of("lot a", "lot b", "silo q", "silo s", "come b 1 to s", "come a 3 to q", "come b 4 to q",
                       "move 5 from q to s")
        given = run(("store", text), ("inside", 0, 0), ("inside", 0, 1))
        self.assertEqual(given[1], [0] + part(2, 0, 2))
        self.assertEqual(given[2], [0] + part(1, 0, 1) + part(3, 3, 0) + part(2, 0, 2))

    def test_each_lot_is_told(self):
        names = ["lot l%d" % n for n in range(6)] + ["silo q"]
        given = run(("store", text_of(*names, "come l4 7 to q", "come l0 2 to q", "weigh q 3")), ("inside", 0, 0))
        self.assertEqual(given[1], [0] + part((7, 3), 0, 0, 0, 0, 7, 0) + part((2, 3), 2, 0, 0, 0, 0, 0))

    def test_each_way_by_itself(self):
        self.check(OPEN, 0, P)
        self.check(OPEN, 1, P, part(1, 1, 0))
        self.check(OPEN, 2, P, part(1, 1, 0))
        self.check(OPEN, 3, P)
        self.check(OPEN, 4, P, part(2, 2, 0))
        self.check(OPEN, 4, Q)
        self.check(OPEN, 3, Q, part(1, 0, 1))

    def test_settled_and_undone(self):
        given = run(store(*OPEN), ("settle", 0, 1), ("inside", 0, P), ("inside", 1, P), ("inside", 2, P),
                    ("inside", 3, P), ("undo",), ("inside", 0, P), ("inside", 0, Q), ("inside", 1, P))
        self.assertEqual(given[2:], [[0] + part(1, 1, 0), [0], [0] + part(2, 2, 0), [-2], [0, 2, 3, 2, 1],
                                     [0] + part(2, 2, 0), [0] + part(1, 0, 1), [-2]])

    def test_numbers(self):
        for j, i in ((-1, 0), (5, 0), (0, -1), (0, 3), (5, 3), (-1, -1), (1000000, 0), (0, 1000000), (-1000000, 0)):
            self.assertEqual(last(store(*OPEN), ("inside", j, i)), [-2], (j, i))
        self.assertEqual(last(store(*OPEN), ("inside", 4, 2)), [0])
        self.assertEqual(last(("store", "lot a\n"), ("inside", 0, 0)), [-2])


class Mass(unittest.TestCase):
    """Promise 1."""

    def test_one_way(self):
        entries = ["come a 37 to p", "come b 41 to q", "move 11 from p to q", "weigh q 43", "move 29 from q to r",
                   "waste 7 from r", "come a 5 to r", "weigh r 21", "sell 13 from r", "move 3 from r to q",
                   "move 4 from q to q", "waste 9 from q", "sell 5 from p", "waste 21 from p"]
        for many in range(len(entries) + 1):
            came_a = 37 * (many > 0) + 5 * (many > 6)
            given = run(store(*entries[:many]), ("mass", A), ("mass", B))
            self.assertEqual(given[1], [0, came_a, 1, came_a, 1], many)
            self.assertEqual(given[2], [0, 41 * (many > 1), 1, 41 * (many > 1), 1], many)

    def test_several_ways(self):
        given = run(store("come a 3 to p or come b 4 to p", "waste 2 from p or sell 2 from p or weigh p 2"),
                    ("mass", A), ("mass", B), ("settle", 0, 1), ("mass", A), ("mass", B), ("undo",), ("undo",),
                    ("mass", B))
        self.assertEqual(given, [[0, 2, 3, 2, 6], [0, 0, 1, 3, 1], [0, 0, 1, 4, 1], [0, 2, 3, 2, 3],
                                 [0, 0, 1, 0, 1], [0, 4, 1, 4, 1], [0, 2, 3, 1, 1], [0, 2, 3, 0, 1],
                                 [0, 0, 1, 0, 1]])

    def test_all_is_thrown_away(self):
        given = run(store("come a 5 to p", "come b 6 to p", "waste 1 from p", "waste 10 from p"), ("mass", A),
                    ("mass", B), ("where", A))
        self.assertEqual(given[1:], [[0, 5, 1, 5, 1], [0, 6, 1, 6, 1], [0]])


class Where(unittest.TestCase):
    def test_one_way(self):
        given = run(store("come a 3 to r", "come b 4 to r", "weigh r 5", "move 1 from r to p"),
                    ("where", A), ("where", B))
        self.assertEqual(given[1:], [[0, P, 3, 5, 3, 5, R, 12, 5, 12, 5], [0, P, 4, 5, 4, 5, R, 16, 5, 16, 5]])

    def test_places_with_some_by_some_way(self):
        given = run(store("come a 3 to p or come a 3 to r", "come b 4 to q or come b 2 to q"),
                    ("where", A), ("where", B))
        self.assertEqual(given[1:], [[0, P, 0, 1, 3, 1, R, 0, 1, 3, 1], [0, Q, 2, 1, 4, 1]])

    def test_places_without_any_are_not_told(self):
        self.assertEqual(run(store(), ("where", A), ("where", B))[1:], [[0], [0]])
        given = run(store("come b 3 to p", "come a 1 to q", "move 1 from q to r"), ("where", A), ("where", B))
        self.assertEqual(given[1:], [[0, R, 1, 1, 1, 1], [0, P, 3, 1, 3, 1]])

    def test_deed_that_no_way_has(self):
        self.assertEqual(last(store("come a 3 to p", "move 9 from p to r or sell 1 from p"), ("where", A)),
                         [0, P, 2, 1, 2, 1])

    def test_settled(self):
        given = run(store("come a 3 to p or come a 3 to r"), ("settle", 0, 1), ("where", A), ("undo",), ("where", A))
        self.assertEqual(given[1:], [[0, 2, 3, 1, 1], [0, R, 3, 1, 3, 1], [0, 2, 3, 0, 1], [0]])

    def test_lots_alone(self):
        self.assertEqual(last(("store", "lot a\n"), ("where", 0)), [0])


class Find(unittest.TestCase):
    NAMES = ["lot a", "bag p", "lot abcdefgh", "silo q1", "bag lot", "lot or1"]

    def check(self, name, answer):
        self.assertEqual(last(("store", text_of(*self.NAMES)), ("find", name)), answer, name)

    def test_lots_and_places(self):
        for name, answer in (("a", [0, 0, 0]), ("abcdefgh", [0, 0, 1]), ("or1", [0, 0, 2]), ("p", [0, 1, 0]),
                             ("q1", [0, 1, 1]), ("lot", [0, 1, 2])):
            self.check(name, answer)

    def test_names_that_nothing_has(self):
        for name in ("b", "q", "q12", "abcdefg", "bag", "aa", "come"):
            self.check(name, [-3])

    def test_bytes_that_are_no_name(self):
        for name in ("", "or", "A", "a ", " a", "a\n", "\n", " ", "1a", "abcdefghi", "a b", "a" * 20, "?", "lot a",
                     "P"):
            self.check(name, [-3])
        for byte in (0, 9, 13, 63, 127, 128, 225, 255):
            self.check([byte], [-3])
            self.check([97, byte], [-3])
            self.check([byte] * 20, [-3])

    def test_behind_more_and_another_store(self):
        given = run(("store", ""), ("find", "a"), ("more", "silo a"), ("find", "a"), ("more", "lot b"), ("find", "b"),
                    ("more", "lot A"), ("find", "A"), ("store", "lot a\n"), ("find", "a"), ("find", "b"))
        self.assertEqual(given[1::2], [[-3], [0, 1, 0], [0, 0, 0], [-3], [0, 0, 0]])
        self.assertEqual(given[10], [-3])

    def test_six_lots_and_eight_places(self):
        names = ["lot l%d" % n for n in range(6)] + ["bag p%d" % n for n in range(8)]
        given = run(("store", text_of(*names)), *[("find", name.split(" ")[1]) for name in names])
        self.assertEqual(given[1:], [[0, 0, n] for n in range(6)] + [[0, 1, n] for n in range(8)])


class SoldKilos(unittest.TestCase):
    def test_one_way(self):
        entries = ["come a 10 to p", "weigh p 7", "sell 3 from p", "come b 9 to q", "sell 9 from q", "sell 4 from p"]
        given = run(store(*entries), *[("sold_kilos", k) for k in range(4)])
        self.assertEqual(given[1:], [[0, 3, 1, 3, 1], [0, 9, 1, 9, 1], [0, 4, 1, 4, 1], [-2]])

    def test_weighed_once_sold_from_a_silo(self):
        given = run(store("come a 3 to q", "come b 4 to q", "weigh q 5", "sell 4 from q"), ("sold_kilos", 0))
        self.assertEqual(given[1], [0, 4, 1, 4, 1])

    def test_several_ways(self):
        given = run(store("come a 9 to p", "sell 2 from p or waste 2 from p", "sell 3 from p or sell 5 from p"),
                    *[("sold_kilos", k) for k in (0, 1, 2, -1)])
        self.assertEqual(given[1:], [[0, 2, 1, 5, 1], [0, 0, 1, 5, 1], [-2], [-2]])


if __name__ == "__main__":
    unittest.main()
