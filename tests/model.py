"""A slow second telling of the document, for comparing: each way is done again from the beginning."""

from fractions import Fraction
from itertools import combinations, product


class Model:
    def __init__(self, lots, places, entries):
        """places: pairs of bag or silo and a name; entries: lists of deeds, each a text."""
        self.lots = lots
        self.kinds = {name: kind for kind, name in places}
        self.places = [name for kind, name in places]
        self.entries = entries
        # The entries that worlds were last found for, and these worlds.
        self.kept = None

    def text(self):
        lines = ["lot " + lot for lot in self.lots]
        lines += [self.kinds[name] + " " + name for name in self.places]
        lines += [" or ".join(entry) for entry in self.entries]
        return "".join(line + "\n" for line in lines)

    def worlds(self):
        """Pairs of a way and the world it has led to, in order."""
        told = tuple(tuple(entry) for entry in self.entries)
        if self.kept is None or self.kept[0] != told:
            self.kept = (told, self.found_worlds())
        return self.kept[1]

    def found_worlds(self):
        found = []
        for choice in product(*[range(len(entry)) for entry in self.entries]):
            world = World(self)
            if all(world.do(entry[c]) for entry, c in zip(self.entries, choice)):
                found.append((choice, world))
        return found

    def counted(self):
        return [0, len(self.lots), len(self.places), len(self.entries), len(self.worlds())]

    def amounts(self, of):
        return [of(world) for choice, world in self.worlds()]

    def bounds(self, of):
        found = self.amounts(of)
        return [0] + told(min(found)) + told(max(found))

    def most_sold(self):
        return max(self.amounts(lambda world: len(world.sold)))

    def fewest_sold(self):
        return min(self.amounts(lambda world: len(world.sold)))

    def surely(self, k, lot):
        has = set(self.amounts(lambda world: world.trace(k, lot) > 0))
        return [0, 2 if len(has) == 2 else int(True in has)]

    def is_enough(self, lot, n, d, some):
        for choice, world in self.worlds():
            back = sum(world.trace(k, lot) for k in set(some))
            sold = sum(world.trace(k, lot) for k in range(len(world.sold)))
            if back < Fraction(n, d) * sold:
                return False
        return True

    def recall(self, lot, n, d):
        if self.most_sold() > 10:
            return [-5]
        rows = []
        for many in range(self.most_sold() + 1):
            rows += combinations(range(self.most_sold()), many)
        # min takes the first of those that are as good, and rows are in the order that's asked for.
        return [0] + list(min([row for row in rows if self.is_enough(lot, n, d, row)], key=len))

    def left_open(self, e, k, lot):
        """What entry e leaves open at worst."""
        worst = Fraction(0)
        for c in range(len(self.entries[e])):
            found = [world.trace(k, lot) for choice, world in self.worlds() if choice[e] == c]
            if found:
                worst = max(worst, max(found) - min(found))
        return worst

    def ask(self, k, lot):
        entries = [e for e, entry in enumerate(self.entries) if len(entry) >= 2]
        if not entries:
            return [0, -1]
        best = min(entries, key=lambda e: (self.left_open(e, k, lot), e))
        return [0, best] + told(self.left_open(best, k, lot))

    def way(self, j):
        return [0] + list(self.worlds()[j][0])

    def inside(self, j, place):
        answer = [0]
        for kilos, green in self.worlds()[j][1].parts[place]:
            for amount in [kilos] + [green.get(lot, 0) for lot in self.lots]:
                answer += told(Fraction(amount))
        return answer

    def unsettled(self):
        answer = [0]
        for e, entry in enumerate(self.entries):
            answer += [e, len(entry)] if len(entry) > 1 else []
        return answer

    def where(self, lot):
        answer = [0]
        for i, place in enumerate(self.places):
            if max(self.amounts(lambda world: world.green(place, lot))) > 0:
                answer += [i] + self.bounds(lambda world: world.green(place, lot))[1:]
        return answer

    def came(self, choice, lot):
        """How many kilograms of the lot came by the way with these deeds."""
        done = [entry[c].split(" ") for entry, c in zip(self.entries, choice)]
        return sum(int(words[2]) for words in done if words[:2] == ["come", lot])


class World:
    """Parts are pairs: kilograms, and a dict from lot to green kilograms."""

    def __init__(self, model):
        self.model = model
        self.parts = {name: [] for name in model.places}
        self.sold = []
        self.thrown = []

    def do(self, deed):
        words = deed.split(" ")
        if words[0] == "come":
            kilos = Fraction(int(words[2]))
            self.put(words[4], [(kilos, {words[1]: kilos})])
            return True
        if words[0] == "weigh":
            return self.weigh(words[1], int(words[2]))
        taken = self.take(words[3], Fraction(int(words[1])))
        if taken is None:
            return False
        if words[0] == "move":
            self.put(words[5], taken)
        elif words[0] == "sell":
            self.sold.append(taken)
        else:
            self.thrown += taken
        return True

    def put(self, place, parts):
        self.parts[place] = self.parts[place] + parts
        if self.model.kinds[place] == "bag":
            self.parts[place] = [self.one(self.parts[place])]

    def one(self, parts):
        greens = {}
        for kilos, green in parts:
            for lot in green:
                greens[lot] = greens.get(lot, 0) + green[lot]
        return (sum(kilos for kilos, green in parts), greens)

    def kilos(self, place):
        return sum((kilos for kilos, green in self.parts[place]), Fraction(0))

    def weigh(self, place, kilos):
        there = self.kilos(place)
        if there == 0 or there < kilos:
            return False
        self.parts[place] = [(old * kilos / there, green) for old, green in self.parts[place]]
        return True

    def take(self, place, wanted):
        if self.kilos(place) < wanted:
            return None
        taken = []
        rest = list(self.parts[place])
        while wanted > 0:
            kilos, green = rest.pop(0)
            part = min(kilos, wanted) / kilos
            taken.append((kilos * part, {lot: green[lot] * part for lot in green}))
            if part < 1:
                rest.insert(0, (kilos * (1 - part), {lot: green[lot] * (1 - part) for lot in green}))
            wanted -= kilos * part
        self.parts[place] = rest
        return taken

    def green(self, place, lot):
        return green_in(self.parts[place], lot)

    def trace(self, k, lot):
        return green_in(self.sold[k], lot) if k < len(self.sold) else Fraction(0)

    def share(self, k, lot):
        if k >= len(self.sold):
            return Fraction(0)
        return self.trace(k, lot) / sum(self.trace(k, name) for name in self.model.lots)

    def sold_kilos(self, k):
        return sum((kilos for kilos, green in self.sold[k]), Fraction(0)) if k < len(self.sold) else Fraction(0)

    def mass(self, lot):
        places = sum(self.green(place, lot) for place in self.parts)
        sold = sum(self.trace(k, lot) for k in range(len(self.sold)))
        return places + sold + green_in(self.thrown, lot)


def told(fraction):
    return [fraction.numerator, fraction.denominator]


def green_in(parts, lot):
    return sum((green.get(lot, 0) for kilos, green in parts), Fraction(0))
