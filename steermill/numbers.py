"""Numbers of a kind: fractions (top, bottom) by kind 0, rests by a prime."""


def common_divisor(one, other):
    """The greatest whole number that divides both; 0 where both are 0."""
    left = abs(one)
    right = abs(other)
    while right != 0:
        rest = left % right
        left = right
        right = rest
    return left


def fraction(top, bottom):
    """The fraction in its one form; the bottom is not 0."""
    divisor = common_divisor(top, bottom)
    # The sign belongs to the top alone, else equal fractions would be unlike tuples.
    if bottom < 0:
        divisor = -divisor
    return (top // divisor, bottom // divisor)


def one_over(prime, rest):
    """The rest whose product with this one, not 0, leaves 1 by the prime."""
    left = prime
    right = rest
    # At every step left and right are, by the prime, these multiples of the rest.
    many_left = 0
    many_right = 1
    while right != 0:
        whole = left // right
        less = left - whole * right
        many_less = many_left - whole * many_right
        left = right
        many_left = many_right
        right = less
        many_right = many_less
    return many_left % prime


def number(kind, whole):
    """The number of the kind that a whole number makes."""
    if kind == 0:
        return (whole, 1)
    return whole % kind


def plus(kind, one, other):
    """The sum of both."""
    if kind == 0:
        return fraction(one[0] * other[1] + other[0] * one[1], one[1] * other[1])
    return (one + other) % kind


def minus(kind, one, other):
    """The first less the second."""
    if kind == 0:
        return fraction(one[0] * other[1] - other[0] * one[1], one[1] * other[1])
    return (one - other) % kind


def times(kind, one, other):
    """The product of both."""
    if kind == 0:
        return fraction(one[0] * other[0], one[1] * other[1])
    return one * other % kind


def over(kind, one, other):
    """The first over the second, which is not nought."""
    # Nought as the second would else give a tuple or a rest that is no quotient at all.
    if other == number(kind, 0):
        raise ZeroDivisionError("a number over nought")
    if kind == 0:
        return fraction(one[0] * other[1], one[1] * other[0])
    return one * one_over(kind, other) % kind
