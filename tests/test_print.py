"""Promise 5: how a store is shown, and that what is shown is read as the same store."""

import unittest

from tests.helper import last, printed, run, text_of

QUESTIONS = [("worlds",), ("print",), ("place", 0, 0), ("place", 1, 1), ("kilos", 0), ("kilos", 1), ("sold",),
             ("trace", 0, 0), ("share", 0, 1), ("surely", 0, 0), ("recall", 0, 1, 2), ("ask", 0, 1), ("mass", 1),
             ("way", 1), ("inside", 0, 1), ("find", "p"), ("unsettled",), ("enough", 1, 2, 3, [0]), ("sold_kilos", 0),
             ("where", 1)]


def shown(*steps):
    return printed(last(*steps, ("print",)))


class Print(unittest.TestCase):
    def test_empty_store(self):
        self.assertEqual(last(("store", ""), ("print",)), [0])

    def test_each_kind_in_order(self):
        text = text_of("silo q", "lot b", "bag p", "lot a", "come a 5 to q", "sell 1 from q or move 2 from q to p",
                       "weigh q 2")
        self.assertEqual(shown(("store", text)),
                         text_of("lot b", "lot a", "silo q", "bag p", "come a 5 to q",
                                 "sell 1 from q or move 2 from q to p", "weigh q 2"))

    def test_all_deeds(self):
        text = text_of("lot a", "bag abcdefgh", "silo q", "come a 9999 to abcdefgh", "move 1000 from abcdefgh to q",
                       "move 1 from q to q", "weigh q 20", "sell 10 from q", "waste 3 from q",
                       "sell 1 from q or waste 1 from q or weigh q 1 or come a 1 to q")
        self.assertEqual(shown(("store", text)), text)

    def test_more_stands_behind_the_others_of_its_kind(self):
        steps = [("store", text_of("bag p", "lot a")), ("more", "lot b"), ("more", "silo q"), ("more", "come b 1 to q"),
                 ("more", "lot c"), ("more", "come a 1 to p or come a 2 to p")]
        self.assertEqual(shown(*steps), text_of("lot a", "lot b", "bag p", "silo q", "come b 1 to q",
                                                "come a 1 to p or come a 2 to p"))

    def test_settled_and_undone(self):
        steps = [("store", text_of("bag p", "lot a", "come a 1 to p or come a 2 to p", "sell 1 from p"))]
        self.assertEqual(shown(*steps, ("settle", 0, 1)),
                         text_of("lot a", "bag p", "come a 2 to p", "sell 1 from p"))
        self.assertEqual(shown(*steps, ("undo",)), text_of("lot a", "bag p", "come a 1 to p or come a 2 to p"))


class ReadAgain(unittest.TestCase):
    def check(self, *steps):
        first = run(*steps, *QUESTIONS)[len(steps):]
        text = printed(first[1])
        second = run(("store", text), *QUESTIONS)
        self.assertEqual(second[0], first[0])
        self.assertEqual(second[1:], first)

    def test_counted_and_printed_alike(self):
        text = text_of("silo q", "lot b", "bag p", "lot a", "come a 5 to q or come b 7 to q", "come b 2 to p",
                       "sell 1 from q or move 2 from q to p", "weigh q 2 or weigh q 3 or waste 4 from q",
                       "sell 1 from p or sell 2 from p or sell 3 from p")
        self.check(("store", text))
        self.check(("store", text), ("undo",))
        self.check(("store", text), ("settle", 2, 1))
        self.check(("store", text), ("settle", 4, 2), ("undo",), ("undo",), ("more", "sell 1 from q"))
        self.check(("store", ""))

    def test_full_store(self):
        names = ["lot l%d" % n for n in range(6)] + ["bag p%d" % n for n in range(8)]
        entries = ["come l%d 3 to p0 or come l%d 4 to p0" % (n, n) for n in range(6)] + ["move 1 from p0 to p1"] * 18
        entries += ["sell 1 from p1"] * 16
        self.check(("store", text_of(*names, *entries)))


if __name__ == "__main__":
    unittest.main()
