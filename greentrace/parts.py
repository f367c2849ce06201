"""Parts, and what is done with the parts that lie in one place."""

from greentrace.ratios import ONE, ZERO, is_less, minus, over, plus, times, total


class Part:
    """Kilograms, and the green kilograms of each lot that went into them.

    A part never changes once it's made, so that many ways can share it.
    """

    def __init__(self, kilos, greens):
        self.kilos = kilos
        self.greens = greens


def kilos_of(parts):
    return total([part.kilos for part in parts])


def green_of(parts, lot):
    return total([part.greens[lot] for part in parts])


def share_of(part, share):
    return Part(times(part.kilos, share), [times(green, share) for green in part.greens])


def mixed(parts):
    """One part of all these; there is at least one."""
    greens = parts[0].greens
    for part in parts[1:]:
        greens = [plus(green, more) for green, more in zip(greens, part.greens)]
    return Part(kilos_of(parts), greens)


def put(there, added, silo):
    """What lies in a place once these parts are put behind what is there."""
    if silo:
        return there + added
    return [mixed(there + added)]


def taken_and_left(parts, kilos):
    """What is taken from the first part on, and what is left; there are that many kilograms."""
    taken = []
    left = []
    wanted = kilos
    for part in parts:
        if wanted == ZERO:
            left.append(part)
        elif is_less(wanted, part.kilos):
            share = over(wanted, part.kilos)
            taken.append(share_of(part, share))
            left.append(share_of(part, minus(ONE, share)))
            wanted = ZERO
        else:
            taken.append(part)
            wanted = minus(wanted, part.kilos)
    return (taken, left)


def weighed(parts, kilos):
    """The parts once they weigh so much together; they weighed as much or more before."""
    share = over(kilos, kilos_of(parts))
    return [Part(times(part.kilos, share), part.greens) for part in parts]
