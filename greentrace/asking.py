"""Which entry to ask about: the one whose answer leaves the least open."""

from greentrace.amounts import spread
from greentrace.ratios import greatest, is_less


def open_at_worst(ways, amounts, entry):
    """How far the amounts may still be apart once it's known which deed the entry was."""
    by_deed = {}
    for way, amount in zip(ways, amounts):
        choice = way.choices[entry]
        by_deed[choice] = by_deed.get(choice, []) + [amount]
    return greatest([spread(found) for found in by_deed.values()])


def best_entry(entries, ways, amounts):
    """The entry to ask about and what it leaves open at worst; None if no entry has two deeds."""
    best = None
    for number, deeds in enumerate(entries):
        if len(deeds) > 1:
            left = open_at_worst(ways, amounts, number)
            if best is None or is_less(left, best[1]):
                best = (number, left)
    return best
