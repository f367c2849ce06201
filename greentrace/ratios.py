"""Exact fractions. A fraction is a tuple (n, d) in lowest terms, n 0 or more and d 1 or more."""

ZERO = (0, 1)
ONE = (1, 1)


def divisor(first, second):
    """The greatest whole number that divides both; not both are 0."""
    while second:
        rest = first % second
        first = second
        second = rest
    return first


def whole(number):
    return (number, 1)


def plus(first, second):
    # Reducing ahead of the products keeps the numbers that are divided small.
    both = divisor(first[1], second[1])
    top = first[0] * (second[1] // both) + second[0] * (first[1] // both)
    left = divisor(top, both)
    return (top // left, first[1] // both * (second[1] // left))


def minus(first, second):
    """The second is not greater than the first."""
    return plus(first, (-second[0], second[1]))


def times(first, second):
    across = divisor(first[0], second[1])
    back = divisor(second[0], first[1])
    return ((first[0] // across) * (second[0] // back), (first[1] // back) * (second[1] // across))


def over(first, second):
    """The second is above 0."""
    return times(first, (second[1], second[0]))


def is_less(first, second):
    return first[0] * second[1] < second[0] * first[1]


def total(fractions):
    amount = ZERO
    for fraction in fractions:
        amount = plus(amount, fraction)
    return amount


def least(fractions):
    found = fractions[0]
    for fraction in fractions:
        if is_less(fraction, found):
            found = fraction
    return found


def greatest(fractions):
    found = fractions[0]
    for fraction in fractions:
        if is_less(found, fraction):
            found = fraction
    return found


def in_whole_numbers(fractions):
    """Whole numbers that stand to one another as these fractions do."""
    common = 1
    for fraction in fractions:
        common = common // divisor(common, fraction[1]) * fraction[1]
    return [fraction[0] * (common // fraction[1]) for fraction in fractions]
