"""Stores made by chance (the same ones each time), and what the slow model answers of them."""

from tests.model import Model

KINDS = ("bag", "silo")


def some_deed(chance, lots, places):
    kilos = chance.randint(1, chance.choice((3, 12, 40)))
    place = chance.choice(places)
    return chance.choice((
        "come %s %d to %s" % (chance.choice(lots), kilos + 3, place),
        "move %d from %s to %s" % (kilos, place, chance.choice(places)),
        "move %d from %s to %s" % (kilos, place, chance.choice(places)),
        "weigh %s %d" % (place, kilos),
        "sell %d from %s" % (kilos, place),
        "sell %d from %s" % (kilos, place),
        "waste %d from %s" % (kilos, place),
    ))


def some_sale(chance, lots, places):
    return "sell %d from %s" % (chance.randint(1, 4), chance.choice(places))


def some_entry(chance, lots, places, draw=some_deed):
    deeds = []
    for n in range(chance.choice((1, 1, 1, 2, 2, 3, 4))):
        deed = draw(chance, lots, places)
        if deed not in deeds:
            deeds.append(deed)
    return deeds


def some_model(chance):
    lots = ["a", "b", "c"][:chance.randint(1, 3)]
    places = [(chance.choice(KINDS), name) for name in ["p", "q", "r"][:chance.randint(1, 3)]]
    model = Model(lots, places, [])
    names = model.places
    for n in range(chance.randint(1, 2)):
        model.entries.append(["come %s %d to %s" % (lots[n % len(lots)], chance.randint(10, 50), chance.choice(names))])
    return model


def grow(chance, model, wanted, draw=some_deed):
    """Adds entries by more; gives the steps and the answers that the model gives."""
    steps = []
    for n in range(wanted):
        entry = some_entry(chance, model.lots, model.places, draw)
        model.entries.append(entry)
        ways = len(model.worlds())
        answer = model.counted()
        if ways == 0 or ways > 64:
            answer = [1, 6 if ways == 0 else 7]
            model.entries.pop()
        steps.append((("more", " or ".join(entry)), answer))
    return steps


def change(chance, model):
    """One settle or undo, and the answer that the model gives."""
    if chance.random() < 0.3:
        model.entries.pop()
        return (("undo",), model.counted())
    e = chance.randrange(len(model.entries))
    c = chance.randrange(len(model.entries[e]))
    before = model.entries[e]
    model.entries[e] = [before[c]]
    if model.worlds() == []:
        model.entries[e] = before
        return (("settle", e, c), [-6])
    return (("settle", e, c), model.counted())


def drawn_model(chance, entries=6, sales=3):
    """A store with a few ways, of which something is sold at the end."""
    model = some_model(chance)
    grow(chance, model, entries)
    grow(chance, model, sales, some_sale)
    return model


def some_share(chance):
    d = chance.choice((1, 2, 3, 7, 10, 1000))
    return (chance.choice((0, d, chance.randint(0, d), chance.randint(0, d))), d)


def some_sold(chance, most):
    """Numbers of what was sold, perhaps one twice."""
    return [chance.randrange(most) for n in range(chance.randint(0, 5))] if most > 0 else []


def questions_of(chance, model):
    """Pairs of a step and the answer that the model gives."""
    found = [(("worlds",), model.counted()), (("print",), [0] + [ord(sign) for sign in model.text()])]
    found.append((("sold",), [0, model.most_sold(), model.fewest_sold()]))
    found.append((("unsettled",), model.unsettled()))
    for l, lot in enumerate(model.lots):
        found += lot_questions(chance, model, l, lot)
    for i, place in enumerate(model.places):
        found += place_questions(chance, model, i, place)
    for k in range(model.most_sold() + 1):
        found += sold_questions(model, k)
    ways = len(model.worlds())
    found.append((("way", ways), [-2]))
    for j in sorted(chance.sample(range(ways), min(ways, 6))):
        found.append((("way", j), model.way(j)))
    return found


def lot_questions(chance, model, l, lot):
    found = [(("mass", l), model.bounds(lambda world: world.mass(lot))), (("where", l), model.where(lot)),
             (("find", lot), [0, 0, l])]
    for i, place in enumerate(model.places):
        found.append((("place", i, l), model.bounds(lambda world: world.green(place, lot))))
    for n in range(2):
        n, d = some_share(chance)
        found.append((("recall", l, n, d), model.recall(lot, n, d)))
        some = some_sold(chance, model.most_sold())
        found.append((("enough", l, n, d, some), [0, int(model.is_enough(lot, n, d, some))]))
    return found


def place_questions(chance, model, i, place):
    found = [(("kilos", i), model.bounds(lambda world: world.kilos(place))), (("find", place), [0, 1, i])]
    ways = len(model.worlds())
    for j in sorted(chance.sample(range(ways), min(ways, 4))):
        found.append((("inside", j, i), model.inside(j, place)))
    return found + [(("inside", ways, i), [-2])]


def sold_questions(model, k):
    """Of the k-th sold; k may be one too many."""
    there = k < model.most_sold()
    found = [(("sold_kilos", k), model.bounds(lambda world: world.sold_kilos(k)) if there else [-2])]
    for l, lot in enumerate(model.lots):
        found.append((("trace", k, l), model.bounds(lambda world: world.trace(k, lot)) if there else [-2]))
        found.append((("share", k, l), model.bounds(lambda world: world.share(k, lot)) if there else [-2]))
        found.append((("surely", k, l), model.surely(k, lot) if there else [-2]))
        found.append((("ask", k, l), model.ask(k, lot) if there else [-2]))
    return found


def every_question(counted, most_sold):
    """All calls that change nothing, with all numbers that are asked and one more of each.

    counted: how many lots, places, entries, ways.
    """
    lots, places, entries, ways = [range(-1, many + 1) for many in counted]
    sold = range(-1, most_sold + 1)
    found = [("worlds",), ("print",), ("sold",), ("unsettled",)]
    found += [("find", name) for name in ("a", "b", "c", "p", "q", "r", "or", "")]
    found += [("kilos", i) for i in places] + [("sold_kilos", k) for k in sold] + [("way", j) for j in ways]
    found += [("inside", j, i) for j in ways for i in places] + [("place", i, l) for i in places for l in lots]
    for l in lots:
        found += [("mass", l), ("where", l)]
        found += [("recall", l, n, d) for n, d in ((0, 1), (1, 3), (1, 1), (2, 1))]
        found += [("enough", l, 1, 2, some) for some in ([], [0], [0, 1, 1], range(min(most_sold, 12)))]
        found += [(name, k, l) for name in ("trace", "share", "surely", "ask") for k in sold]
    return found
