"""Ways: which deeds may have been done, and where each choice has led."""

from greentrace.parts import Part, kilos_of, mixed, put, taken_and_left, weighed
from greentrace.ratios import ZERO, is_less

MOST_WAYS = 64


class Way:
    """For each entry the deed that was done, the parts in each place, what was sold, what was thrown away.

    A way never changes once it's made: those that come of it share its parts.
    """

    def __init__(self, choices, places, sold, thrown):
        self.choices = choices
        self.places = places
        self.sold = sold
        self.thrown = thrown


def first_way(layout):
    return Way([], [[] for name in layout.places], [], [])


def with_place(places, place, parts):
    changed = list(places)
    changed[place] = parts
    return changed


def with_places(way, places):
    return Way(way.choices, places, way.sold, way.thrown)


def can_be(way, deed):
    """A deed other than come asks for so many kilograms in its first place."""
    if deed.words[0] == "come":
        return True
    return not is_less(kilos_of(way.places[deed.places[0]]), deed.kilos)


def come(way, deed, layout):
    place = deed.places[0]
    greens = [deed.kilos if lot == deed.lot else ZERO for lot in range(len(layout.lots))]
    there = put(way.places[place], [Part(deed.kilos, greens)], layout.silos[place])
    return with_places(way, with_place(way.places, place, there))


def move(way, deed, layout):
    source = deed.places[0]
    target = deed.places[1]
    halves = taken_and_left(way.places[source], deed.kilos)
    places = with_place(way.places, source, halves[1])
    # The target is looked up once its parts are taken: it may be the source.
    there = put(places[target], halves[0], layout.silos[target])
    return with_places(way, with_place(places, target, there))


def weigh(way, deed, layout):
    place = deed.places[0]
    there = weighed(way.places[place], deed.kilos)
    return with_places(way, with_place(way.places, place, there))


def sell(way, deed, layout):
    place = deed.places[0]
    halves = taken_and_left(way.places[place], deed.kilos)
    places = with_place(way.places, place, halves[1])
    return Way(way.choices, places, way.sold + [mixed(halves[0])], way.thrown)


def waste(way, deed, layout):
    place = deed.places[0]
    halves = taken_and_left(way.places[place], deed.kilos)
    return Way(way.choices, with_place(way.places, place, halves[1]), way.sold, way.thrown + halves[0])


DOERS = {"come": come, "move": move, "weigh": weigh, "sell": sell, "waste": waste}


def chosen(way, choices):
    return Way(choices, way.places, way.sold, way.thrown)


def next_ways(ways, deeds, layout):
    """All ways, in order, once one of the deeds was done; no more than show that there are too many."""
    found = []
    for way in ways:
        for choice, deed in enumerate(deeds):
            if can_be(way, deed):
                led = DOERS[deed.words[0]](way, deed, layout)
                found.append(chosen(led, way.choices + [choice]))
        if len(found) > MOST_WAYS:
            return found
    return found


def settled(ways, entry, choice):
    """The ways with that deed, which is the only one of its entry from now on."""
    kept = [way for way in ways if way.choices[entry] == choice]
    return [chosen(way, way.choices[:entry] + [0] + way.choices[entry + 1:]) for way in kept]
