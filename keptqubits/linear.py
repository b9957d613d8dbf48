"""The greatest sum under bounds, with what shows that it is the greatest.

The variables of the grid are the places, from 0 on; behind them what is left at each of rows up to its bound; and
LOOSE, by which all bounds are loosened until spots are found.
"""

from keptqubits.errors import BadNumber
from keptqubits.pivots import Grid, climb, drop_column, side_and_nudge, turn
from keptqubits.ratios import ratio_of, ratio_share
from keptqubits.wholes import common_bottom, whole

# below all other variables, so that it is the first one to go
LOOSE = -1

# in a grid from _first_grid
LOOSENING_GOAL = -2
VALUE_GOAL = -1


class Reached:
    """The greatest value, spots that have it, and weights that show that no spots have more."""

    def __init__(self, number, spots, weights):
        self.number = number
        self.spots = tuple(spots)
        self.weights = tuple(weights)


class Endless:
    """Spots, and a run by which they reach any value."""

    def __init__(self, spots, run):
        self.spots = tuple(spots)
        self.run = tuple(run)


class Nothing:
    """Weights that show that there are no spots."""

    def __init__(self, weights):
        self.weights = tuple(weights)


def greatest(rows, right, worth):
    """The greatest value of spots, as Reached, Endless or Nothing."""
    _check_widths(rows, right, worth)
    told = [[ratio_of(number) for number in row] for row in rows]
    bounds = [ratio_of(number) for number in right]
    prices = [ratio_of(number) for number in worth]
    lines = [[*row, bound] for row, bound in zip(told, bounds)]
    scales = [common_bottom(line) for line in lines]
    scale = common_bottom(prices)
    grid = _first_grid([whole(line) for line in lines], whole(prices))
    if not _find_spots(grid):
        return Nothing(_weights(grid, LOOSENING_GOAL, len(prices), scales))
    column = climb(grid, VALUE_GOAL)
    spots = [_level(grid, place) for place in range(len(prices))]
    if column is not None:
        return Endless(spots, [_growth(grid, place, column) for place in range(len(prices))])
    value, _ = side_and_nudge(grid.rows[VALUE_GOAL])
    weights = _weights(grid, VALUE_GOAL, len(prices), scales)
    return Reached(ratio_share((value, grid.bottom), scale), spots, [ratio_share(weight, scale) for weight in weights])


def _check_widths(rows, right, worth):
    if len(rows) == 0:
        raise BadNumber("rows", 0)
    for row in rows:
        if len(row) != len(worth):
            raise BadNumber("width", len(row))
    if len(right) != len(rows):
        raise BadNumber("width", len(right))


def _first_grid(lines, prices):
    """The bounds, loosened by LOOSE; the goal to loosen nothing; and the goal of the value."""
    bounds = [[-1, *line, _nudge(index)] for index, line in enumerate(lines)]
    loosening = [1] + [0] * len(prices) + [0, 0]
    value = [0] + [-price for price in prices] + [0, 0]
    places = list(range(len(prices)))
    left = list(range(len(prices), len(prices) + len(lines)))
    return Grid(bounds, [loosening, value], [LOOSE, *places], left)


def _nudge(index):
    """Any number above 0; the more irregular these are, the fewer pivots gain nothing."""
    return 1 + (index * index * 7368787) % 1000003


def _find_spots(grid):
    """Turn the grid to some spots, and take LOOSE out of it then; whether there are any."""
    bounds = [side_and_nudge(row) for row in grid.rows[:len(grid.held)]]
    if min(bounds) < (0, 0):
        # behind this no side is below 0, since all are loosened by as much as the least one asks for
        turn(grid, bounds.index(min(bounds)), grid.free.index(LOOSE))
        climb(grid, LOOSENING_GOAL)
        lowest, _ = side_and_nudge(grid.rows[LOOSENING_GOAL])
        if lowest < 0:
            return False
    # LOOSE is free here: of all that a pivot stops at 0 together, the least variable is freed
    drop_column(grid, grid.free.index(LOOSE))
    return True


def _level(grid, variable):
    """What the variable stands for."""
    if variable not in grid.held:
        return (0, 1)
    side, _ = side_and_nudge(grid.rows[grid.held.index(variable)])
    return ratio_of((side, grid.bottom))


def _growth(grid, variable, column):
    """How much the variable grows when the free one of the column grows by 1."""
    if variable == grid.free[column]:
        return (1, 1)
    if variable not in grid.held:
        return (0, 1)
    return ratio_of((-grid.rows[grid.held.index(variable)][column], grid.bottom))


def _weights(grid, goal, first, scales):
    """How much the goal falls by what is left at each bound; the variables of these begin with first."""
    weights = [(0, 1)] * len(scales)
    for column, variable in enumerate(grid.free):
        if variable >= first:
            # what is left at a bound was multiplied by its scale
            weights[variable - first] = ratio_of((grid.rows[goal][column] * scales[variable - first], grid.bottom))
    return weights
