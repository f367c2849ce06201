"""A slow second telling of the document, for comparing: each way is done again from the beginning."""

from fractions import Fraction
from itertools import product


class Model:
    def __init__(self, lots, places, entries):
        """places: pairs of bag or silo and a name; entries: lists of deeds, each a text."""
        self.lots = lots
        self.kinds = {name: kind for kind, name in places}
        self.places = [name for kind, name in places]
        self.entries = entries
        # The entries that worlds were last found for, and these worlds.
        self.kept = None

    def text(self):
        lines = ["lot " + lot for lot in self.lots]
        lines += [self.kinds[name] + " " + name for name in self.places]
        lines += [" or ".join(entry) for entry in self.entries]
        return "".join(line + "\n" for line in lines)

    def worlds(self):
        """Pairs of a way and the world it has led to, in order."""
        told = tuple(tuple(entry) for entry in self.entries)
        if self.kept is None or self.kept[0] != told:
            self.kept = (told, self.found_worlds())
        return self.kept[1]

    def found_worlds(self):
        found = []
        for choice in product(*[range(len(entry)) for entry in self.entries]):
            world = World(self)
            if all(world.do(entry[c]) for entry, c in zip(self.entries, choice)):
                found.append((choice, world))
        return found

    def counted(self):
        return [0, len(self.lots), len(self.places), len(self.entries), len(self.worlds())]

    def bounds(self, of):
        found = [of(world) for choice, world in self.worlds()]
        low, high = min(found), max(found)
        return [0, low.numerator, low.denominator, high.numerator, high.denominator]


class World:
    """Parts are pairs: kilograms, and a dict from lot to green kilograms."""

    def __init__(self, model):
        self.model = model
        self.parts = {name: [] for name in model.places}
        self.sold = []
        self.thrown = []

    def do(self, deed):
        words = deed.split(" ")
        if words[0] == "come":
            kilos = Fraction(int(words[2]))
            self.put(words[4], [(kilos, {words[1]: kilos})])
            return True
        if words[0] == "weigh":
            return self.weigh(words[1], int(words[2]))
        taken = self.take(words[3], Fraction(int(words[1])))
        if taken is None:
            return False
        if words[0] == "move":
            self.put(words[5], taken)
        elif words[0] == "sell":
            self.sold.append(taken)
        else:
            self.thrown += taken
        return True

    def put(self, place, parts):
        self.parts[place] = self.parts[place] + parts
        if self.model.kinds[place] == "bag":
            self.parts[place] = [self.one(self.parts[place])]

    def one(self, parts):
        greens = {}
        for kilos, green in parts:
            for lot in green:
                greens[lot] = greens.get(lot, 0) + green[lot]
        return (sum(kilos for kilos, green in parts), greens)

    def kilos(self, place):
        return sum((kilos for kilos, green in self.parts[place]), Fraction(0))

    def weigh(self, place, kilos):
        there = self.kilos(place)
        if there == 0 or there < kilos:
            return False
        self.parts[place] = [(old * kilos / there, green) for old, green in self.parts[place]]
        return True

    def take(self, place, wanted):
        if self.kilos(place) < wanted:
            return None
        taken = []
        rest = list(self.parts[place])
        while wanted > 0:
            kilos, green = rest.pop(0)
            part = min(kilos, wanted) / kilos
            taken.append((kilos * part, {lot: green[lot] * part for lot in green}))
            if part < 1:
                rest.insert(0, (kilos * (1 - part), {lot: green[lot] * (1 - part) for lot in green}))
            wanted -= kilos * part
        self.parts[place] = rest
        return taken

    def green(self, place, lot):
        return green_in(self.parts[place], lot)

    def trace(self, k, lot):
        return green_in(self.sold[k], lot) if k < len(self.sold) else Fraction(0)

    def share(self, k, lot):
        if k >= len(self.sold):
            return Fraction(0)
        return self.trace(k, lot) / sum(self.trace(k, name) for name in self.model.lots)


def green_in(parts, lot):
    return sum((green.get(lot, 0) for kilos, green in parts), Fraction(0))
