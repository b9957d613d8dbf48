"""Ratios brought to one bottom, so that integers can be reckoned with."""

from math import lcm


def common_bottom(ratios):
    """The least integer above 0 that all ratios times it are integers."""
    common = 1
    for _, bottom in ratios:
        common = lcm(common, bottom)
    return common


def whole(ratios):
    """The ratios, all times their common bottom."""
    common = common_bottom(ratios)
    return [top * (common // bottom) for top, bottom in ratios]
