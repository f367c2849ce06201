"""The promises 1, 2, 4 and 5 over drawn stores: the program's answers are held against one another."""

import random
import unittest
from fractions import Fraction

from greentrace.stores import answers
from tests.drawn import change, drawn_model, every_question, grow
from tests.helper import asked, calls_of, last, printed, run


def drawn_store(seed, most_ways=24):
    """Steps that make a store; the numbers in which it's counted; the most that were sold."""
    chance = random.Random(seed)
    model = drawn_model(chance, chance.randint(2, 5), chance.randint(1, 4))
    while len(model.worlds()) > most_ways:
        model.entries.pop()
    before = [("store", model.text())]
    return (before, last(*before, ("worlds",))[1:], last(*before, ("sold",))[1])


def ways_of(before):
    many = last(*before, ("worlds",))[4]
    return [answer[1:] for answer in asked(before, [("way", j) for j in range(many)])]


def settled_to(before, way):
    """Steps behind which that way alone is left."""
    return before + [("settle", e, c) for e, c in enumerate(way)]


def bounds_of(answer):
    return (Fraction(answer[1], answer[2]), Fraction(answer[3], answer[4]))


def amount_of(answer):
    """By one way; where there's no k-th sold it has nothing."""
    if answer == [-2]:
        return Fraction(0)
    assert answer[1:3] == answer[3:5]
    return bounds_of(answer)[0]


def measures(counted, sold):
    lots, places = range(counted[0]), range(counted[1])
    found = [("kilos", i) for i in places] + [("sold_kilos", k) for k in range(sold)]
    for l in lots:
        found += [("place", i, l) for i in places] + [("mass", l)]
        found += [(name, k, l) for name in ("trace", "share") for k in range(sold)]
    return found


class AtLeastAndAtMost(unittest.TestCase):
    """Promise 2: each is what some way has, and each way is between them."""

    def test_each_way_alone(self):
        several = 0
        for seed in range(60):
            before, counted, sold = drawn_store(seed)
            ways = ways_of(before)
            several += len(ways) > 1
            questions = measures(counted, sold)
            alone = [asked(settled_to(before, way), questions) for way in ways]
            for at, answer in enumerate(asked(before, questions)):
                found = [amount_of(row[at]) for row in alone]
                self.assertEqual(bounds_of(answer), (min(found), max(found)), (before, questions[at]))
        self.assertGreater(several, 30)

    def test_where_tells_what_place_tells(self):
        for seed in range(100, 140):
            before, counted, sold = drawn_store(seed)
            for l in range(counted[0]):
                expected = [0]
                for i in range(counted[1]):
                    answer = last(*before, ("place", i, l))
                    expected += [i] + answer[1:] if answer[3] > 0 else []
                self.assertEqual(last(*before, ("where", l)), expected, (before, l))

    def test_surely_and_enough_are_said_of_each_way(self):
        for seed in range(200, 240):
            before, counted, sold = drawn_store(seed)
            alone = [settled_to(before, way) for way in ways_of(before)]
            for l in range(counted[0]):
                for k in range(sold):
                    has = {amount_of(last(*steps, ("trace", k, l))) > 0 for steps in alone}
                    expected = 2 if len(has) == 2 else int(has == {True})
                    self.assertEqual(last(*before, ("surely", k, l)), [0, expected], (before, k, l))
                    row = [n for n in range(sold) if n != k]
                    good = all(enough_alone(steps, l, row) for steps in alone)
                    self.assertEqual(last(*before, ("enough", l, 2, 3, row)), [0, int(good)], (before, l, row))


def enough_alone(steps, lot, row):
    there = last(*steps, ("sold",))[1]
    return last(*steps, ("enough", lot, 2, 3, [k for k in row if k < there])) == [0, 1]


class NoneIsLost(unittest.TestCase):
    """Promise 1."""

    def test_by_each_way_what_came_is_there(self):
        wasted = 0
        for seed in range(300, 350):
            before, counted, sold = drawn_store(seed)
            for way in ways_of(before):
                steps = settled_to(before, way)
                text = printed(last(*steps, ("print",)))
                wasted += "waste" in text
                lines = [line.split(" ") for line in text.splitlines()]
                names = [words[1] for words in lines if words[0] == "lot"]
                for l, name in enumerate(names):
                    came = sum(int(words[2]) for words in lines if words[:2] == ["come", name])
                    self.assertEqual(last(*steps, ("mass", l)), [0, came, 1, came, 1], text)
        self.assertGreater(wasted, 20)

    def test_inside_has_what_place_and_kilos_tell(self):
        for seed in range(350, 380):
            before, counted, sold = drawn_store(seed)
            for i in range(counted[1]):
                rows = [inside_sums(answer, counted[0]) for answer in
                        asked(before, [("inside", j, i) for j in range(counted[3])])]
                told = [("kilos", i)] + [("place", i, l) for l in range(counted[0])]
                for at, answer in enumerate(asked(before, told)):
                    found = [row[at] for row in rows]
                    self.assertEqual(bounds_of(answer), (min(found), max(found)), (before, told[at]))


def inside_sums(answer, lots):
    """Kilograms and green kilograms of each lot in all parts together."""
    fractions = [Fraction(n, d) for n, d in zip(answer[1::2], answer[2::2])]
    return [sum(fractions[at::1 + lots], Fraction(0)) for at in range(1 + lots)]


class Settled(unittest.TestCase):
    """Promise 4: just the ways with that deed are left, in their order."""

    def test_each_deed_of_each_entry(self):
        refused = 0
        for seed in range(400, 440):
            before, counted, sold = drawn_store(seed)
            ways = ways_of(before)
            deeds = dict(zip(*[iter(last(*before, ("unsettled",))[1:])] * 2))
            for e in range(counted[2]):
                for c in range(deeds.get(e, 1)):
                    kept = [j for j, way in enumerate(ways) if way[e] == c]
                    refused += kept == []
                    self.check(before, ways, kept, e, c)
                self.assertEqual(last(*before, ("settle", e, deeds.get(e, 1))), [-2])
        self.assertGreater(refused, 3)

    def check(self, before, ways, kept, e, c):
        settled = before + [("settle", e, c)]
        if kept == []:
            self.assertEqual(last(*settled), [-6], (settled, ways))
            self.assertEqual(ways_of(settled), ways)
            return
        expected = [ways[j][:e] + [0] + ways[j][e + 1:] for j in kept]
        self.assertEqual(ways_of(settled), expected, settled)
        places = last(*before, ("worlds",))[2]
        old = asked(before, [("inside", j, i) for j in kept for i in range(places)])
        new = asked(settled, [("inside", j, i) for j in range(len(kept)) for i in range(places)])
        self.assertEqual(new, old, settled)


class ShownAndReadAgain(unittest.TestCase):
    """Promise 5: a store shown and read again answers all calls alike."""

    def check(self, before):
        questions = every_question(last(*before, ("worlds",))[1:], last(*before, ("sold",))[1])
        text = printed(last(*before, ("print",)))
        again = [("store", text)]
        self.assertEqual(asked(again, questions), asked(before, questions), text)
        self.assertEqual(last(*again, ("undo",)), last(*before, ("undo",)))

    def test_as_drawn(self):
        for seed in range(500, 540):
            self.check(drawn_store(seed, 12)[0])

    def test_behind_settle_undo_and_more(self):
        for seed in range(600, 640):
            chance = random.Random(seed)
            model = drawn_model(chance, 4, 2)
            before = [("store", model.text())]
            before += [change(chance, model)[0] for n in range(2)]
            before += [step for step, answer in grow(chance, model, 2)]
            self.check(before)


class HandedIn(unittest.TestCase):
    """What was handed in stays as it was; the same list is answered alike each time."""

    def test_over_drawn_stores(self):
        for seed in range(700, 730):
            before, counted, sold = drawn_store(seed, 8)
            chance = random.Random(seed)
            questions = every_question(counted, sold)
            few = [step for step in questions if step[0] in ("recall", "ask", "where")]
            others = [step for step in questions if step not in few]
            steps = chance.sample(others, min(60, len(others))) + chance.sample(few, min(9, len(few)))
            chance.shuffle(steps)
            changes = [("settle", 1, 0), ("more", "sell 1 from p or waste 1 from p"), ("undo",), ("store", "junk")]
            calls = calls_of([("worlds",)] + before + steps + changes)
            kept = list(calls)
            first = answers(calls)
            self.assertEqual(calls, kept)
            self.assertEqual(answers(calls), first)
            self.assertEqual(answers(kept), first)
            self.assertEqual({type(number) for number in first}, {int})

    def test_a_question_changes_nothing(self):
        for seed in range(800, 820):
            before, counted, sold = drawn_store(seed, 6)
            questions = every_question(counted, sold)
            for step in questions:
                given = run(*before, step, step, ("print",), ("worlds",))
                self.assertEqual(given[1], given[2], step)
                self.assertEqual(given[3:], run(*before, ("print",), ("worlds",))[1:], step)


if __name__ == "__main__":
    unittest.main()
