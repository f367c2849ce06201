"""The list of calls as a whole: refusals, what changes nothing, what is handed in and given back."""

import unittest

from greentrace.stores import answers
from tests.helper import bytes_of, call, calls_of, last, printed, run, text_of

TEXT = text_of("lot a", "lot b", "bag p", "silo q", "come a 5 to p", "come b 4 to q or come b 3 to p",
               "sell 2 from p")
QUESTIONS = [("worlds",), ("print",), ("place", 0, 0), ("place", 0, 1), ("kilos", 1), ("sold",), ("trace", 0, 1),
             ("share", 0, 0)]
ALL_BUT_STORE = [("print",), ("more", "lot x"), ("more", ""), ("settle", 0, 0), ("undo",), ("worlds",),
                 ("place", 0, 0), ("kilos", 0), ("sold",), ("trace", 0, 0), ("share", 0, 0)]


class NoStore(unittest.TestCase):
    def test_without_a_store_all_but_store_is_refused(self):
        for step in ALL_BUT_STORE:
            self.assertEqual(run(step, ("store", ""), ("worlds",)), [[-1], [0, 0, 0, 0, 1], [0, 0, 0, 0, 1]], step)

    def test_it_is_told_ahead_of_all_others(self):
        for step in (("settle", -1, -1), ("place", 9, 9), ("kilos", -1000000), ("trace", 5, 5), ("share", -1, 0),
                     ("undo",), ("more", "junk\n")):
            self.assertEqual(last(step), [-1], step)

    def test_a_wrong_text_is_no_store(self):
        self.assertEqual(run(("store", "lot"), ("worlds",), ("store", "lot a\nlot a\n"), ("print",)),
                         [[1, 1, 1], [-1], [1, 2, 2], [-1]])


class OutOfRange(unittest.TestCase):
    def test_places_lots_and_sold(self):
        good = run(("store", TEXT), *QUESTIONS)
        wrong = []
        for bad in (-1, -2, 2, 3, 1000000, -1000000):
            wrong += [("place", bad, 0), ("place", 0, bad), ("place", bad, bad), ("kilos", bad)]
            wrong += [("trace", 0, bad), ("share", 0, bad), ("trace", bad, bad), ("share", bad, bad)]
        for bad in (-1, 1, 2, 1000000, -1000000):
            wrong += [("trace", bad, 0), ("share", bad, 0)]
        for step in wrong:
            given = run(("store", TEXT), step, *QUESTIONS)
            self.assertEqual(given[1], [-2], step)
            self.assertEqual(given[2:], good[1:], step)

    def test_an_empty_store_has_none(self):
        steps = [("place", 0, 0), ("kilos", 0), ("trace", 0, 0), ("share", 0, 0), ("settle", 0, 0), ("undo",)]
        self.assertEqual(run(("store", ""), *steps)[1:], [[-2]] * 5 + [[-3]])

    def test_numbers_go_up_to_the_most_that_were_sold(self):
        text = text_of("lot a", "bag p", "come a 5 to p", "sell 1 from p", "sell 1 from p or waste 1 from p")
        given = run(("store", text), ("trace", 1, 0), ("trace", 2, 0), ("settle", 2, 1), ("trace", 1, 0),
                    ("trace", 0, 0))
        self.assertEqual(given[1:], [[0, 0, 1, 1, 1], [-2], [0, 1, 1, 3, 1], [-2], [0, 1, 1, 1, 1]])


class NothingChanges(unittest.TestCase):
    def check(self, *steps):
        good = run(("store", TEXT), *QUESTIONS)
        given = run(("store", TEXT), *steps, *QUESTIONS)
        self.assertEqual(given[1 + len(steps):], good[1:], steps)
        return given[1:1 + len(steps)]

    def test_wrong_text(self):
        for text, answer in (("junk", [1, 1, 1]), ("lot a\nlot a\n", [1, 2, 2]), ("\n", [1, 1, 1]),
                             ("lot a\nbag p\ncome a 5 to p\nsell 6 from p\n", [1, 4, 6])):
            self.assertEqual(self.check(("store", text)), [answer])

    def test_wrong_line(self):
        for line, why in (("", 1), ("junk", 1), ("lot a", 2), ("come x 1 to p", 3), ("lot x", 5), ("sell 9 from p", 6),
                          ("sell 1 from p or sell 1 from p", 2),
                          (" or ".join("come a %d to p" % n for n in range(1, 6)), 4)):
            self.assertEqual(self.check(("more", line)), [[1, why]])

    def test_too_many_ways(self):
        four = " or ".join("come a %d to p" % n for n in range(1, 5))
        given = run(("store", TEXT), ("more", four), ("more", four), ("more", four), ("worlds",), ("undo",),
                    ("worlds",), ("print",))
        self.assertEqual(given[1:7], [[0, 2, 2, 4, 8], [0, 2, 2, 5, 32], [1, 7], [0, 2, 2, 5, 32], [0, 2, 2, 4, 8],
                                      [0, 2, 2, 4, 8]])
        self.assertEqual(printed(given[7]), TEXT + four + "\n")

    def test_line_and_its_undoing(self):
        self.check(("more", "sell 1 from p or sell 1 from q"), ("undo",))
        self.check(("more", "move 1 from p to q"), ("more", "weigh q 1"), ("undo",), ("undo",))

    def test_questions(self):
        self.check(*QUESTIONS, *QUESTIONS)


class AnotherStore(unittest.TestCase):
    def test_a_good_text_takes_the_place_of_the_store(self):
        given = run(("store", TEXT), ("store", "lot z\n"), ("print",), ("store", ""), ("print",), ("sold",))
        self.assertEqual(given[1:], [[0, 1, 0, 0, 1], [0] + bytes_of("lot z\n"), [0, 0, 0, 0, 1], [0], [0, 0, 0]])


class Lists(unittest.TestCase):
    def test_answers_have_their_counts_before_them(self):
        calls = call("worlds") + call("store", "lot a\n") + call("print") + call("place", 0, 0)
        self.assertEqual(answers(calls), [1, -1, 5, 0, 1, 0, 0, 1, 7, 0, 108, 111, 116, 32, 97, 10, 1, -2])

    def test_the_list_handed_in_stays(self):
        calls = calls_of([("store", TEXT), ("more", "sell 1 from p or sell 1 from q"), ("settle", 1, 0), ("undo",),
                          ("store", "junk"), ("more", "junk")] + QUESTIONS)
        before = list(calls)
        answers(calls)
        self.assertEqual(calls, before)

    def test_what_is_given_back_is_a_list_of_whole_numbers(self):
        given = answers(calls_of([("store", TEXT)] + QUESTIONS + ALL_BUT_STORE))
        self.assertIs(type(given), list)
        self.assertEqual({type(number) for number in given}, {int})

    def test_nothing_is_kept(self):
        calls = calls_of([("worlds",), ("store", TEXT), ("more", "sell 1 from p"), ("settle", 1, 1), ("print",)])
        first = answers(calls)
        self.assertEqual(answers(calls), first)
        self.assertEqual(last(("worlds",)), [-1])

    def test_what_is_given_back_is_not_shared(self):
        calls = calls_of([("store", TEXT), ("trace", 0, 0), ("print",)])
        first = answers(calls)
        kept = list(first)
        first.clear()
        self.assertEqual(answers(calls), kept)

    def test_a_hundred_calls(self):
        steps = [("store", TEXT)] + [("more", "come a 1 to p")] * 37 + [("more", "come a 1 to p"), ("undo",)] * 31
        given = run(*steps)
        self.assertEqual(len(given), 100)
        self.assertEqual(given[37], [0, 2, 2, 40, 2])
        self.assertEqual(given[38:40], [[1, 4], [0, 2, 2, 39, 2]])
        self.assertEqual(given[40:], [[0, 2, 2, 40, 2], [0, 2, 2, 39, 2]] * 30)


if __name__ == "__main__":
    unittest.main()
