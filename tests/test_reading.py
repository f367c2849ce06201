"""What store and more say of wrong texts and lines, and which of several is told first."""

import unittest

from tests.helper import last, run, text_of

HOUSE = ["lot a", "lot b", "bag p", "silo q"]
STOCKED = HOUSE + ["come a 10 to p", "come b 10 to q"]


def read(*lines):
    return last(("store", text_of(*lines)))


class Both(unittest.TestCase):
    """A line is told wrong alike in a text and in more."""

    def check(self, before, line, why):
        expected = [1, len(before) + 1, why]
        self.assertEqual(read(*before, line), expected, line)
        self.assertEqual(last(("store", text_of(*before)), ("more", line)), [1, why], line)

    def check_good(self, before, line):
        counted = read(*before, line)
        self.assertEqual(counted[0], 0, line)
        self.assertEqual(last(("store", text_of(*before)), ("more", line)), counted, line)


class Texts(unittest.TestCase):
    def test_empty_text(self):
        self.assertEqual(last(("store", "")), [0, 0, 0, 0, 1])

    def test_good_text(self):
        self.assertEqual(read(*STOCKED), [0, 2, 2, 2, 1])

    def test_text_without_last_end(self):
        self.assertEqual(last(("store", "lot a")), [1, 1, 1])
        self.assertEqual(last(("store", "lot a\nlot b")), [1, 2, 1])
        self.assertEqual(last(("store", "lot a\n ")), [1, 2, 1])

    def test_last_end_is_told_ahead_of_wrong_lines(self):
        self.assertEqual(last(("store", "junk\nlot a\nlot a\nlot b")), [1, 4, 1])

    def test_first_wrong_line_is_told(self):
        self.assertEqual(read("lot a", "lot a", "junk"), [1, 2, 2])
        self.assertEqual(read("lot a", "junk", "lot a"), [1, 2, 1])

    def test_empty_line(self):
        self.assertEqual(read(""), [1, 1, 1])
        self.assertEqual(read("lot a", "", "lot b"), [1, 2, 1])

    def test_strange_bytes(self):
        for byte in (0, 9, 13, 31, 33, 37, 65, 95, 127, 128, 225, 255):
            self.assertEqual(last(("store", [108, 111, 116, 32, 97, byte, 10])), [1, 1, 1], byte)
            self.assertEqual(last(("store", [byte, 10])), [1, 1, 1], byte)


class Names(Both):
    def test_forms(self):
        for kind in ("lot", "bag", "silo"):
            for rest in ("", " ", " a b", "  a", " a ", " A", " 1a", " or", " a_b", " abcdefghi", " a-b", " aB"):
                self.check(HOUSE[:0], kind + rest, 1)

    def test_other_lines(self):
        for line in (" lot a", "Lot a", "lots a", "box a", "or", " ", "lot a or lot b"):
            self.check([], line, 1)

    def test_good_names(self):
        for kind in ("lot", "bag", "silo"):
            for name in ("a", "z9", "abcdefgh", "a1234567", "lot", "or1", "come", "to", "oro", "o"):
                self.check_good([], kind + " " + name)

    def test_name_twice(self):
        for kind in ("lot", "bag", "silo"):
            for name in "abpq":
                self.check(HOUSE, kind + " " + name, 2)

    def test_behind_an_entry(self):
        for kind in ("lot", "bag", "silo"):
            self.check(STOCKED, kind + " c", 5)

    def test_too_many_lots(self):
        six = ["lot l" + str(n) for n in range(6)]
        self.check_good(six[:5], six[5])
        self.check(six, "lot x", 4)
        self.check_good(six, "bag x")

    def test_too_many_places(self):
        eight = [("bag", "silo")[n % 2] + " p" + str(n) for n in range(8)]
        self.check_good(eight[:7], eight[7])
        self.check(eight, "bag x", 4)
        self.check(eight, "silo x", 4)
        self.check_good(eight, "lot x")

    def test_which_is_told_first(self):
        six = ["lot l" + str(n) for n in range(6)]
        self.check(six, "lot l1 ", 1)
        self.check(six, "lot l1", 2)
        self.check(six + ["bag p", "come l0 1 to p"], "lot l1", 2)
        self.check(six + ["bag p", "come l0 1 to p"], "lot x", 5)
        self.check(six + ["bag p", "come l0 1 to p"], "lot X", 1)
        eight = ["bag p" + str(n) for n in range(8)]
        self.check(["lot a"] + eight + ["come a 1 to p0"], "silo x", 5)
        self.check(["lot a"] + eight + ["come a 1 to p0"], "silo p3", 2)

    def test_six_lots_are_free_to_be_used_again_only_by_another_text(self):
        six = ["lot l" + str(n) for n in range(6)]
        self.assertEqual(run(("store", text_of(*six)), ("more", "lot x"), ("store", ""), ("more", "lot x")),
                         [[0, 6, 0, 0, 1], [1, 4], [0, 0, 0, 0, 1], [0, 1, 0, 0, 1]])


class Deeds(Both):
    def test_forms(self):
        wrong = (
            "come", "come a", "come a 1", "come a 1 to", "come a 1 to p x", "come a 1 in p", "come 1 a to p",
            "come a 1 to p ", " come a 1 to p", "come a  1 to p", "Come a 1 to p", "come a 1 to p or",
            "or come a 1 to p", "come a 1 to p or or come b 1 to p", "come or 1 to p", "come a 1 to or",
            "move 1 from p", "move 1 from p to", "move 1 to q from p", "move p to q", "move 1 from p to q q",
            "weigh p", "weigh 1 p", "weigh p 1 1", "weigh p to 1",
            "sell 1", "sell 1 from", "sell 1 of p", "sell p 1", "sell 1 from p p", "sell 1 from p to q",
            "waste 1", "waste 1 from", "waste 1 of p", "waste p 1", "waste 1 from p p", "steal 1 from p",
        )
        for line in wrong:
            self.check(STOCKED, line, 1)

    def test_forms_of_kilograms(self):
        for kilos in ("0", "01", "00", "10000", "99999", "-1", "+1", "1.5", "1e2", "x", "1x", "KG", "0x1"):
            self.check(STOCKED, "come a " + kilos + " to p", 1)
            self.check(STOCKED, "move " + kilos + " from p to q", 1)
            self.check(STOCKED, "weigh p " + kilos, 1)
            self.check(STOCKED, "sell " + kilos + " from p", 1)
            self.check(STOCKED, "waste " + kilos + " from p", 1)

    def test_least_and_greatest_kilograms(self):
        for kilos in ("1", "9", "10", "9999", "1000"):
            self.check_good(HOUSE, "come a " + kilos + " to p")

    def test_form_of_names_in_deeds(self):
        for name in ("A", "1", "abcdefghi", "LOT", "PLACE", "a.b"):
            self.check(STOCKED, "come " + name + " 1 to p", 1)
            self.check(STOCKED, "come a 1 to " + name, 1)
            self.check(STOCKED, "sell 1 from " + name, 1)
            self.check(STOCKED, "weigh " + name + " 1", 1)

    def test_what_is_not_there(self):
        missing = (
            "come x 1 to p", "come a 1 to x", "come p 1 to p", "come a 1 to b", "come abcdefgh 1 to p",
            "move 1 from x to p", "move 1 from p to x", "move 1 from a to p", "move 1 from p to a",
            "weigh x 1", "weigh a 1", "sell 1 from x", "sell 1 from a", "waste 1 from x", "waste 1 from b",
        )
        for line in missing:
            self.check(STOCKED, line, 3)

    def test_words_of_the_form_are_names_too(self):
        before = ["lot come", "bag to", "silo from"]
        self.check_good(before, "come come 5 to to")
        self.check_good(before + ["come come 5 to from"], "move 2 from from to to")

    def test_first_wrong_deed_is_told(self):
        self.check(STOCKED, "come x 1 to p or junk", 3)
        self.check(STOCKED, "junk or come x 1 to p", 1)
        self.check(STOCKED, "come a 1 to p or come x 1 to p or junk", 3)
        self.check(STOCKED, "come a 1 to p or junk or come x 1 to p", 1)
        self.check(STOCKED, "come x 0 to p", 1)
        self.check(STOCKED, "come x 1 to p or", 3)

    def test_wrong_deeds_are_told_ahead_of_alike_ones(self):
        self.check(STOCKED, "sell 1 from p or sell 1 from p or sell 1 from x", 3)
        self.check(STOCKED, "sell 1 from p or sell 1 from p or sell", 1)
        self.check(STOCKED, "sell 1 from x or sell 1 from x", 3)

    def test_alike_deeds(self):
        self.check(STOCKED, "sell 1 from p or sell 1 from p", 2)
        self.check(STOCKED, "sell 1 from p or sell 2 from p or sell 1 from p", 2)
        self.check(STOCKED, "weigh p 4 or sell 1 from p or move 1 from p to q or weigh p 4", 2)
        self.check_good(STOCKED, "sell 1 from p or waste 1 from p")
        self.check_good(STOCKED, "move 1 from p to q or move 1 from q to p")

    def test_alike_is_told_ahead_of_too_many(self):
        five = ["sell " + str(n) + " from p" for n in (1, 2, 3, 4, 1)]
        self.check(STOCKED, " or ".join(five), 2)

    def test_alike_is_told_ahead_of_no_way(self):
        self.check(STOCKED, "sell 99 from p or sell 99 from p", 2)

    def test_more_than_four_deeds(self):
        five = ["sell " + str(n) + " from p" for n in (1, 2, 3, 4, 5)]
        self.check_good(STOCKED, " or ".join(five[:4]))
        self.check(STOCKED, " or ".join(five), 4)
        self.check(STOCKED, " or ".join(["sell 9" + str(n) + " from p" for n in range(5)]), 4)

    def test_forty_entries(self):
        forty = HOUSE + ["come a 1 to p"] * 40
        self.check_good(forty[:-1], "come a 1 to p")
        self.check(forty, "come a 1 to p", 4)
        self.check(forty, "sell 99 from p", 4)
        self.check(forty, "come a 1 to p or come a 1 to p", 2)
        self.check(forty, "come x 1 to p", 3)
        self.check(forty, "come", 1)

    def test_no_way(self):
        self.check(STOCKED, "sell 11 from p", 6)
        self.check(STOCKED, "move 11 from q to p or waste 9999 from q", 6)
        self.check(HOUSE, "weigh p 1", 6)
        self.check(STOCKED, "weigh p 11", 6)
        self.check_good(STOCKED, "sell 11 from p or sell 10 from p")

    def test_too_many_ways(self):
        two = "come a 1 to p or come a 2 to p"
        self.assertEqual(read(*HOUSE, *[two] * 6), [0, 2, 2, 6, 64])
        self.check(HOUSE + [two] * 6, two, 7)
        self.check_good(HOUSE + [two] * 6, "come a 1 to p")
        four = "come a 1 to p or come a 2 to p or come a 3 to p or come a 4 to p"
        self.check(HOUSE + [two] * 5, four, 7)
        self.check_good(HOUSE + [four] * 2, four)

    def test_just_above_the_most_ways(self):
        # By the 32 ways there are 31, 32, .. 62 kilograms: so many ways can sell 32, 31 and 62 of them.
        before = HOUSE + ["come a %d to p or come b %d to p" % (n, 2 * n) for n in (1, 2, 4, 8, 16)]
        self.assertEqual(read(*before)[4], 32)
        self.check_good(before, "sell 1 from p or sell 32 from p")
        self.assertEqual(read(*before, "sell 1 from p or sell 32 from p")[4], 63)
        self.assertEqual(read(*before, "sell 1 from p or sell 31 from p")[4], 64)
        self.check(before, "sell 1 from p or sell 31 from p or sell 62 from p", 7)


class MoreLines(unittest.TestCase):
    def test_line_end_is_a_byte_of_a_word(self):
        for line in ("lot c\n", "\nlot c", "lot\nc", "lot c\nlot d", "come a 1 to p\n", "come a 1\nto p", "\n"):
            self.assertEqual(last(("store", text_of(*HOUSE)), ("more", line)), [1, 1], line)
        self.assertEqual(last(("store", text_of(*HOUSE)), ("more", "come x 1 to p or come a 1 to p\n")), [1, 3])

    def test_empty_line(self):
        self.assertEqual(last(("store", ""), ("more", "")), [1, 1])

    def test_a_store_told_line_by_line(self):
        steps = [("store", "")] + [("more", line) for line in STOCKED]
        self.assertEqual(run(*steps), [[0, 0, 0, 0, 1], [0, 1, 0, 0, 1], [0, 2, 0, 0, 1], [0, 2, 1, 0, 1],
                                       [0, 2, 2, 0, 1], [0, 2, 2, 1, 1], [0, 2, 2, 2, 1]])

    def test_longest_line(self):
        line = " or ".join(["move 1 from abcdefgh to bcdefghi", "move 2 from abcdefgh to bcdefghi",
                            "move 3 from abcdefgh to bcdefghi", "move 4 from abcdefgh to bcdefghi"])
        before = text_of("lot a", "bag abcdefgh", "bag bcdefghi", "come a 4 to abcdefgh")
        self.assertEqual(last(("store", before), ("more", line)), [0, 1, 2, 2, 4])
        self.assertEqual(last(("store", before), ("more", "a" * 200)), [1, 1])

    def test_names_are_taken_again_once_entries_are_undone(self):
        steps = [("store", text_of(*STOCKED)), ("more", "bag c"), ("undo",), ("more", "bag c"),
                 ("undo",), ("more", "bag c"), ("more", "lot d"), ("more", "come d 7 to c"), ("place", 2, 2)]
        self.assertEqual(run(*steps)[1:], [[1, 5], [0, 2, 2, 1, 1], [1, 5], [0, 2, 2, 0, 1], [0, 2, 3, 0, 1],
                                           [0, 3, 3, 0, 1], [0, 3, 3, 1, 1], [0, 7, 1, 7, 1]])


if __name__ == "__main__":
    unittest.main()
