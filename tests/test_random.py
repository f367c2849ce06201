"""Many stores made by chance (the same ones each time), compared with the slow model."""

import random
import unittest

from tests.helper import run
from tests.model import Model

KINDS = ("bag", "silo")


def some_deed(chance, lots, places):
    kilos = chance.randint(1, chance.choice((3, 12, 40)))
    place = chance.choice(places)
    return chance.choice((
        "come %s %d to %s" % (chance.choice(lots), kilos + 3, place),
        "move %d from %s to %s" % (kilos, place, chance.choice(places)),
        "move %d from %s to %s" % (kilos, place, chance.choice(places)),
        "weigh %s %d" % (place, kilos),
        "sell %d from %s" % (kilos, place),
        "sell %d from %s" % (kilos, place),
        "waste %d from %s" % (kilos, place),
    ))


def some_entry(chance, lots, places):
    deeds = []
    for n in range(chance.choice((1, 1, 1, 2, 2, 3, 4))):
        deed = some_deed(chance, lots, places)
        if deed not in deeds:
            deeds.append(deed)
    return deeds


def some_model(chance):
    lots = ["a", "b", "c"][:chance.randint(1, 3)]
    places = [(chance.choice(KINDS), name) for name in ["p", "q", "r"][:chance.randint(1, 3)]]
    model = Model(lots, places, [])
    names = model.places
    for n in range(chance.randint(1, 2)):
        model.entries.append(["come %s %d to %s" % (lots[n % len(lots)], chance.randint(10, 50), chance.choice(names))])
    return model


def questions_of(model):
    """Pairs of a step and the answer that the model gives."""
    found = [(("worlds",), model.counted()), (("print",), [0] + [ord(sign) for sign in model.text()])]
    counts = [len(world.sold) for choice, world in model.worlds()]
    found.append((("sold",), [0, max(counts), min(counts)]))
    for i, place in enumerate(model.places):
        found.append((("kilos", i), model.bounds(lambda world: world.kilos(place))))
    for l, lot in enumerate(model.lots):
        for i, place in enumerate(model.places):
            found.append((("place", i, l), model.bounds(lambda world: world.green(place, lot))))
        for k in range(min(max(counts), 4)):
            found.append((("trace", k, l), model.bounds(lambda world: world.trace(k, lot))))
            found.append((("share", k, l), model.bounds(lambda world: world.share(k, lot))))
    return found


def grow(chance, model, wanted):
    """Adds entries by more; gives the steps and the answers that the model gives."""
    steps = []
    for n in range(wanted):
        entry = some_entry(chance, model.lots, model.places)
        model.entries.append(entry)
        ways = len(model.worlds())
        answer = model.counted()
        if ways == 0 or ways > 64:
            answer = [1, 6 if ways == 0 else 7]
            model.entries.pop()
        steps.append((("more", " or ".join(entry)), answer))
    return steps


def change(chance, model):
    """One settle or undo, and the answer that the model gives."""
    if chance.random() < 0.3:
        model.entries.pop()
        return (("undo",), model.counted())
    e = chance.randrange(len(model.entries))
    c = chance.randrange(len(model.entries[e]))
    before = model.entries[e]
    model.entries[e] = [before[c]]
    if model.worlds() == []:
        model.entries[e] = before
        return (("settle", e, c), [-6])
    return (("settle", e, c), model.counted())


class Random(unittest.TestCase):
    def check(self, told):
        given = run(*[step for step, answer in told])
        for (step, answer), found in zip(told, given):
            self.assertEqual(found, answer, (step, told[0]))

    def test_stores_grown_line_by_line(self):
        for seed in range(150):
            chance = random.Random(seed)
            model = some_model(chance)
            told = [(("store", model.text()), model.counted())]
            told += grow(chance, model, chance.randint(3, 8))
            told += questions_of(model)
            self.check(told)

    def test_stores_read_at_once(self):
        for seed in range(1000, 1100):
            chance = random.Random(seed)
            model = some_model(chance)
            grow(chance, model, chance.randint(3, 8))
            self.check([(("store", model.text()), model.counted())] + questions_of(model))

    def test_settled_and_undone(self):
        for seed in range(2000, 2100):
            chance = random.Random(seed)
            model = some_model(chance)
            grow(chance, model, chance.randint(3, 7))
            told = [(("store", model.text()), model.counted())]
            for n in range(3):
                if model.entries != []:
                    told.append(change(chance, model))
            told += grow(chance, model, 2)
            told += questions_of(model)
            self.check(told)

    def test_no_green_kilogram_is_lost_in_the_model(self):
        for seed in range(50):
            chance = random.Random(seed)
            model = some_model(chance)
            grow(chance, model, 6)
            for choice, world in model.worlds():
                for lot in model.lots:
                    self.assertEqual(kept(world, lot), came(model, choice, lot))


def kept(world, lot):
    places = sum(world.green(place, lot) for place in world.parts)
    sold = sum(world.trace(k, lot) for k in range(len(world.sold)))
    return places + sold + sum(green.get(lot, 0) for kilos, green in world.thrown)


def came(model, choice, lot):
    done = [entry[c].split(" ") for entry, c in zip(model.entries, choice)]
    return sum(int(words[2]) for words in done if words[:2] == ["come", lot])


if __name__ == "__main__":
    unittest.main()
