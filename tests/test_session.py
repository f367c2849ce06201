"""The list of calls as a whole: refusals, what changes nothing, what is handed in and given back."""

import unittest

from greentrace.stores import answers
from tests.helper import bytes_of, call, calls_of, last, printed, run, text_of

TEXT = text_of("lot a", "lot b", "bag p", "silo q", "come a 5 to p", "come b 4 to q or come b 3 to p",
               "sell 2 from p")
QUESTIONS = [("worlds",), ("print",), ("place", 0, 0), ("place", 0, 1), ("kilos", 1), ("sold",), ("trace", 0, 1),
             ("share", 0, 0), ("surely", 0, 1), ("recall", 1, 1, 2), ("ask", 0, 0), ("mass", 1), ("way", 1),
             ("inside", 1, 0), ("find", "q"), ("unsettled",), ("enough", 0, 1, 1, [0]), ("sold_kilos", 0), ("where", 1)]
ALL_BUT_STORE = [("print",), ("more", "lot x"), ("more", ""), ("settle", 0, 0), ("undo",), ("worlds",),
                 ("place", 0, 0), ("kilos", 0), ("sold",), ("trace", 0, 0), ("share", 0, 0), ("surely", 0, 0),
                 ("recall", 0, 0, 1), ("ask", 0, 0), ("mass", 0), ("way", 0), ("inside", 0, 0), ("find", "a"),
                 ("find", ""), ("unsettled",), ("enough", 0, 0, 1, []), ("enough", 0, 0, 1, [0, 1]), ("sold_kilos", 0),
                 ("where", 0)]
# What each number of a call is, and how many of these TEXT has.
ASKED = {"settle": "ec", "place": "il", "kilos": "i", "trace": "kl", "share": "kl", "surely": "kl", "ask": "kl",
         "mass": "l", "way": "j", "inside": "ji", "sold_kilos": "k", "where": "l", "recall": "lnd", "enough": "lnds"}
MANY = {"l": 2, "i": 2, "k": 1, "e": 3, "c": 1, "j": 2}


class NoStore(unittest.TestCase):
    def test_without_a_store_all_but_store_is_refused(self):
        for step in ALL_BUT_STORE:
            self.assertEqual(run(step, ("store", ""), ("worlds",)), [[-1], [0, 0, 0, 0, 1], [0, 0, 0, 0, 1]], step)

    def test_it_is_told_ahead_of_all_others(self):
        for step in (("settle", -1, -1), ("place", 9, 9), ("kilos", -1000000), ("trace", 5, 5), ("share", -1, 0),
                     ("undo",), ("more", "junk\n"), ("surely", -1, -1), ("recall", 0, 2, 1), ("recall", -1, 0, 0),
                     ("ask", -1, 9), ("mass", -1), ("way", -1), ("inside", -1, -1), ("find", "A"),
                     ("enough", 9, 9, 9, [-1]), ("sold_kilos", -1), ("where", 1000000)):
            self.assertEqual(last(step), [-1], step)

    def test_a_wrong_text_is_no_store(self):
        self.assertEqual(run(("store", "lot"), ("worlds",), ("store", "lot a\nlot a\n"), ("print",)),
                         [[1, 1, 1], [-1], [1, 2, 2], [-1]])


def first_good(name):
    """A call that isn't refused, with the least numbers."""
    return [name] + [{"d": 1, "s": []}.get(kind, 0) for kind in ASKED[name]]


class OutOfRange(unittest.TestCase):
    def test_below_at_and_above_each_range(self):
        good = run(("store", TEXT), *QUESTIONS)
        for name in ASKED:
            self.assertEqual(last(("store", TEXT), first_good(name))[0], 0, name)
            for at, kind in enumerate(ASKED[name], start=1):
                if kind in MANY:
                    step = first_good(name)
                    step[at] = MANY[kind] - 1
                    self.assertEqual(last(("store", TEXT), step)[0], 0, step)
                    for bad in (-1000000, -MANY[kind], -1, MANY[kind], MANY[kind] + 1, 1000000):
                        step[at] = bad
                        given = run(("store", TEXT), step, *QUESTIONS)
                        self.assertEqual(given[1], [-2], step)
                        self.assertEqual(given[2:], good[1:], step)

    def test_all_numbers_at_once(self):
        for name in ASKED:
            for bad in (-1, 9, 1000000, -1000000):
                step = [name] + [[bad] if kind == "s" else bad for kind in ASKED[name]]
                self.assertEqual(last(("store", TEXT), step), [-2], step)

    def test_an_empty_store_has_none(self):
        steps = [first_good(name) for name in ASKED if name != "way"]
        self.assertEqual(run(("store", ""), *steps)[1:], [[-2]] * len(steps))
        self.assertEqual(run(("store", ""), ("undo",), ("find", "a"), ("way", 0))[1:], [[-3], [-3], [0]])

    def test_numbers_go_up_to_the_most_that_were_sold(self):
        text = text_of("lot a", "bag p", "come a 5 to p", "sell 1 from p", "sell 1 from p or waste 1 from p")
        given = run(("store", text), ("trace", 1, 0), ("trace", 2, 0), ("settle", 2, 1), ("trace", 1, 0),
                    ("trace", 0, 0))
        self.assertEqual(given[1:], [[0, 0, 1, 1, 1], [-2], [0, 1, 1, 3, 1], [-2], [0, 1, 1, 1, 1]])
        for name in ("share", "surely", "ask"):
            given = run(("store", text), (name, 1, 0), (name, 2, 0), ("settle", 2, 1), (name, 1, 0), (name, 0, 0))
            self.assertEqual([answer[0] for answer in given], [0, 0, -2, 0, -2, 0], name)
        given = run(("store", text), ("sold_kilos", 1), ("sold_kilos", 2), ("settle", 2, 1), ("sold_kilos", 1),
                    ("enough", 0, 0, 1, [1]), ("undo",), ("undo",), ("enough", 0, 0, 1, [0]), ("enough", 0, 0, 1, []))
        self.assertEqual([answer[0] for answer in given], [0, 0, -2, 0, -2, -2, 0, 0, -2, 0])


class NothingChanges(unittest.TestCase):
    def check(self, *steps):
        good = run(("store", TEXT), *QUESTIONS)
        given = run(("store", TEXT), *steps, *QUESTIONS)
        self.assertEqual(given[1 + len(steps):], good[1:], steps)
        return given[1:1 + len(steps)]

    def test_wrong_text(self):
        for text, answer in (("junk", [1, 1, 1]), ("lot a\nlot a\n", [1, 2, 2]), ("\n", [1, 1, 1]),
                             ("lot a\nbag p\ncome a 5 to p\nsell 6 from p\n", [1, 4, 6])):
            self.assertEqual(self.check(("store", text)), [answer])

    def test_wrong_line(self):
        for line, why in (("", 1), ("junk", 1), ("lot a", 2), ("come x 1 to p", 3), ("lot x", 5), ("sell 9 from p", 6),
                          ("sell 1 from p or sell 1 from p", 2),
                          (" or ".join("come a %d to p" % n for n in range(1, 6)), 4)):
            self.assertEqual(self.check(("more", line)), [[1, why]])

    def test_too_many_ways(self):
        four = " or ".join("come a %d to p" % n for n in range(1, 5))
        given = run(("store", TEXT), ("more", four), ("more", four), ("more", four), ("worlds",), ("undo",),
                    ("worlds",), ("print",))
        self.assertEqual(given[1:7], [[0, 2, 2, 4, 8], [0, 2, 2, 5, 32], [1, 7], [0, 2, 2, 5, 32], [0, 2, 2, 4, 8],
                                      [0, 2, 2, 4, 8]])
        self.assertEqual(printed(given[7]), TEXT + four + "\n")

    def test_line_and_its_undoing(self):
        self.check(("more", "sell 1 from p or sell 1 from q"), ("undo",))
        self.check(("more", "move 1 from p to q"), ("more", "weigh q 1"), ("undo",), ("undo",))

    def test_questions(self):
        self.check(*QUESTIONS, *QUESTIONS)


class AnotherStore(unittest.TestCase):
    def test_a_good_text_takes_the_place_of_the_store(self):
        given = run(("store", TEXT), ("store", "lot z\n"), ("print",), ("store", ""), ("print",), ("sold",))
        self.assertEqual(given[1:], [[0, 1, 0, 0, 1], [0] + bytes_of("lot z\n"), [0, 0, 0, 0, 1], [0], [0, 0, 0]])


class Lists(unittest.TestCase):
    def test_answers_have_their_counts_before_them(self):
        calls = call("worlds") + call("store", "lot a\n") + call("print") + call("place", 0, 0)
        self.assertEqual(answers(calls), [1, -1, 5, 0, 1, 0, 0, 1, 7, 0, 108, 111, 116, 32, 97, 10, 1, -2])

    def test_the_list_handed_in_stays(self):
        calls = calls_of([("store", TEXT), ("more", "sell 1 from p or sell 1 from q"), ("settle", 1, 0), ("undo",),
                          ("store", "junk"), ("more", "junk")] + QUESTIONS)
        before = list(calls)
        answers(calls)
        self.assertEqual(calls, before)

    def test_what_is_given_back_is_a_list_of_whole_numbers(self):
        given = answers(calls_of([("store", TEXT)] + QUESTIONS + ALL_BUT_STORE))
        self.assertIs(type(given), list)
        self.assertEqual({type(number) for number in given}, {int})

    def test_nothing_is_kept(self):
        calls = calls_of([("worlds",), ("store", TEXT), ("more", "sell 1 from p"), ("settle", 1, 1), ("print",)])
        first = answers(calls)
        self.assertEqual(answers(calls), first)
        self.assertEqual(last(("worlds",)), [-1])

    def test_what_is_given_back_is_not_shared(self):
        calls = calls_of([("store", TEXT), ("trace", 0, 0), ("print",)])
        first = answers(calls)
        kept = list(first)
        first.clear()
        self.assertEqual(answers(calls), kept)

    def test_a_hundred_calls(self):
        steps = [("store", TEXT)] + [("more", "come a 1 to p")] * 37 + [("more", "come a 1 to p"), ("undo",)] * 31
        given = run(*steps)
        self.assertEqual(len(given), 100)
        self.assertEqual(given[37], [0, 2, 2, 40, 2])
        self.assertEqual(given[38:40], [[1, 4], [0, 2, 2, 39, 2]])
        self.assertEqual(given[40:], [[0, 2, 2, 40, 2], [0, 2, 2, 39, 2]] * 30)


if __name__ == "__main__":
    unittest.main()
