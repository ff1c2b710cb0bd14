"""Sums of powers, told by lists of their numbers, the one of the least power first, and fractions of them."""


def trimmed(numbers):
    """The list without the zeros at its end."""
    size = len(numbers)
    while size and numbers[size - 1] == 0:
        size -= 1
    return list(numbers[:size])


def unroll(over, below, most):
    """The numbers f[0] to f[most] whose product with below, which begins with 1, is over."""
    found = []
    for k in range(most + 1):
        total = over[k] if k < len(over) else 0
        for i in range(1, min(k + 1, len(below))):
            total -= below[i] * found[k - i]
        found.append(total)
    return found


def product_of(one, other):
    """The product of two such sums."""
    found = [0] * (len(one) + len(other) - 1)
    for i, number in enumerate(one):
        for k, times in enumerate(other):
            found[i + k] += number * times
    return found


def _primitive(numbers):
    """The list without the greatest number that divides all of it."""
    divisor = 0
    for number in numbers:
        one, other = abs(number), divisor
        while other:
            one, other = other, one % other
        divisor = one
    return [number // divisor for number in numbers]


def _left_over(one, other):
    """What is left of a multiple of one when multiples of other are taken away, other not being []."""
    left = trimmed(one)
    while len(left) >= len(other):
        times, ahead = left[-1], len(left) - len(other)
        left = [number * other[-1] for number in left]
        for k, number in enumerate(other):
            left[ahead + k] -= times * number
        left = trimmed(left)
        if left:
            left = _primitive(left)
    return left


def lowest(over, below):
    """The fraction with as few numbers as can be, as a pair of tuples; both are lists that begin with 1."""
    one, other = trimmed(over), trimmed(below)
    while other:
        one, other = other, _left_over(one, other)
    # What divides two sums that begin with 1, and is itself divided by no number, begins with 1 or -1.
    shared = [number * one[0] for number in _primitive(one)]
    return (_divided(over, shared), _divided(below, shared))


def _divided(numbers, shared):
    return tuple(unroll(numbers, shared, len(trimmed(numbers)) - len(shared)))
