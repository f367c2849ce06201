"""Amounts: how much it is by each way, and at least and at most of these."""

from greentrace.parts import green_of, kilos_of
from greentrace.ratios import ZERO, greatest, least, minus, over, total


def bounds(amounts):
    """At least and at most, number by number."""
    return list(least(amounts)) + list(greatest(amounts))


def spread(amounts):
    """How far at least and at most are apart."""
    return minus(greatest(amounts), least(amounts))


def most_sold(ways):
    return max([len(way.sold) for way in ways])


def fewest_sold(ways):
    return min([len(way.sold) for way in ways])


def sold_parts(ways, number):
    """For each way the k-th sold: the part in a list, or an empty list where there's none."""
    return [way.sold[number:number + 1] for way in ways]


def sold_greens(ways, number, lot):
    return [green_of(parts, lot) for parts in sold_parts(ways, number)]


def sold_weights(ways, number):
    return [kilos_of(parts) for parts in sold_parts(ways, number)]


def green_share(parts, lot):
    if parts == []:
        return ZERO
    return over(parts[0].greens[lot], total(parts[0].greens))


def sold_shares(ways, number, lot):
    return [green_share(parts, lot) for parts in sold_parts(ways, number)]


def place_greens(ways, place, lot):
    return [green_of(way.places[place], lot) for way in ways]


def place_weights(ways, place):
    return [kilos_of(way.places[place]) for way in ways]


def all_parts(way):
    """What is in places, was sold or was thrown away."""
    parts = way.sold + way.thrown
    for there in way.places:
        parts = parts + there
    return parts


def masses(ways, lot):
    return [green_of(all_parts(way), lot) for way in ways]
