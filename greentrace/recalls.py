"""What has to be called back so that, whatever was, enough of a lot is back."""

from greentrace.amounts import most_sold
from greentrace.ratios import in_whole_numbers


class Demand:
    """By one way: what each thing sold brings back, and what all that's called back must bring together.

    These are whole numbers, since very many sums of them may have to be tried.
    """

    def __init__(self, brought, wanted):
        self.brought = brought
        self.wanted = wanted

    def is_met(self, numbers):
        return sum([self.brought[number] for number in numbers]) >= self.wanted


def demand_of(way, lot, many, n, d):
    greens = in_whole_numbers([part.greens[lot] for part in way.sold])
    # Where others sold more than this way did, calling that back brings nothing.
    missing = [0] * (many - len(greens))
    return Demand([green * d for green in greens] + missing, n * sum(greens))


def demands_of(ways, lot, n, d):
    many = most_sold(ways)
    return [demand_of(way, lot, many, n, d) for way in ways]


def is_enough(demands, numbers):
    for demand in demands:
        if not demand.is_met(numbers):
            return False
    return True


def first_enough(demands, candidates):
    for numbers in candidates:
        if is_enough(demands, numbers):
            return numbers
    return None


def with_one_more(candidates, many):
    """All rising rows that are longer by one, in order, if these are all of their length, in order."""
    longer = []
    for numbers in candidates:
        start = numbers[-1] + 1 if numbers else 0
        for number in range(start, many):
            longer.append(numbers + [number])
    return longer


def fewest_enough(demands, many):
    """Of the fewest numbers that are enough the first; the many numbers there are always are enough."""
    candidates = [[]]
    found = first_enough(demands, candidates)
    while found is None:
        candidates = with_one_more(candidates, many)
        found = first_enough(demands, candidates)
    return found
