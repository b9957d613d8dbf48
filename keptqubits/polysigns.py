"""Whether a polynomial is below 0 somewhere between 0 and 1.

In here a polynomial is a list of integers, that of the lowest power first, without a 0 at its end.
"""

from math import gcd

from keptqubits.ratios import ratio_of, ratio_product, ratio_share, ratio_sum
from keptqubits.wholes import whole


def never_below(row):
    """None if the polynomial is at least 0 between 0 and 1, otherwise a ratio there at which it is below 0."""
    poly = _inner_part(_trimmed(whole([ratio_of(number) for number in row])))
    if not poly:
        return None
    if poly[0] < 0:
        return _near_zero(poly)
    if sum(poly) < 0:
        return _near_one(poly)
    return _below_inside(poly)


def _trimmed(numbers):
    """The numbers without zeros at the end."""
    length = len(numbers)
    while length and numbers[length - 1] == 0:
        length -= 1
    return numbers[:length]


def _inner_part(poly):
    """The polynomial divided by p and 1 - p as often as they divide it: neither changes a sign inside."""
    start = 0
    while start < len(poly) and poly[start] == 0:
        start += 1
    poly = poly[start:]
    while poly and sum(poly) == 0:
        poly = _without_one(poly)
    return poly


def _without_one(poly):
    """The polynomial, which is 0 at 1, divided by 1 - p."""
    numbers = []
    total = 0
    for number in poly[:-1]:
        total += number
        numbers.append(total)
    return numbers


def _near_zero(poly):
    place = (1, 2)
    while _sign_at(poly, place) >= 0:
        place = ratio_product(place, (1, 2))
    return place


def _near_one(poly):
    place = (1, 2)
    while _sign_at(poly, place) >= 0:
        place = _between(place, 1, 1)
    return place


def _between(low, high, share):
    """A ratio between two others, the closer to high the greater share is."""
    return ratio_share(ratio_sum(low, ratio_product(share, high)), share + 1)


def _sign_at(poly, place):
    """The sign of the polynomial at a ratio: 1, 0 or -1."""
    top, bottom = place
    total = 0
    power = 1
    for number in reversed(poly):
        total = total * top + number * power
        power = power * bottom
    return int(total > 0) - int(total < 0)


def _below_inside(poly):
    """The answer for a polynomial that is above 0 at 0 and at 1.

    The zeros between two ratios, a double one counted once, are as many as the changes of signs along the chain
    that are lost from the one to the other. Where there is at most one, and the polynomial is above 0 at both
    ends, it is not below 0 between them.
    """
    chain = _sturm_chain(poly)
    parts = [((0, 1), (1, 1), _changes(chain, (0, 1)), _changes(chain, (1, 1)))]
    while parts:
        low, high, low_changes, high_changes = parts.pop()
        if low_changes - high_changes > 1:
            middle = _no_zero(poly, low, high)
            if _sign_at(poly, middle) < 0:
                return middle
            changes = _changes(chain, middle)
            parts.append((low, middle, low_changes, changes))
            parts.append((middle, high, changes, high_changes))
    return None


def _no_zero(poly, low, high):
    """A ratio between two others at which the polynomial is not 0."""
    share = 1
    place = _between(low, high, share)
    while _sign_at(poly, place) == 0:
        share += 1
        place = _between(low, high, share)
    return place


def _changes(chain, place):
    """How often the sign changes along the chain at a ratio; zeros are passed over."""
    signs = [_sign_at(poly, place) for poly in chain]
    signs = [sign for sign in signs if sign != 0]
    return len([k for k in range(1, len(signs)) if signs[k] != signs[k - 1]])


def _sturm_chain(poly):
    """The polynomial, its slope, and then each time minus the rest of the division of the two ahead."""
    chain = [poly]
    following = _slope(poly)
    while following:
        chain.append(following)
        following = [-number for number in _rest(chain[-2], following)]
    return chain


def _slope(poly):
    return [power * number for power, number in enumerate(poly)][1:]


def _rest(poly, divisor):
    """The rest of the division, times something above 0 that makes it a small polynomial of integers."""
    lead = divisor[-1]
    while len(poly) >= len(divisor):
        common = gcd(poly[-1], lead)
        if lead < 0:
            common = -common
        # lead // common is above 0
        shift = len(poly) - len(divisor)
        taken = [0] * shift + [number * (poly[-1] // common) for number in divisor]
        poly = _trimmed([number * (lead // common) - other for number, other in zip(poly, taken)])
    return _shortened(poly)


def _shortened(poly):
    """The polynomial divided by what divides all its numbers."""
    common = 0
    for number in poly:
        common = gcd(common, number)
    return [number // common for number in poly]
