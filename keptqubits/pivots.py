"""A grid of integers on which a sum is raised as far as it goes, pivot by pivot.

Each row of a grid says of one variable, the held one, that bottom * held + (the sum of its numbers, each times the
free variable of its column) = its *side*, the number behind these. No variable may be below 0, and free ones stand
for 0. The last rows are *goals*: they are held for good, and may be below 0.

Behind its side each row has its *nudge*: all sides are thought to be moved by their nudges, times something above 0
that is less than all that matters. Where many bounds meet in one corner, the nudges part them, so that nearly each
pivot gains something there, too.
"""


class Grid:
    """The rows, the bounds ahead of the goals, with the names of the free and the held variables: integers."""

    def __init__(self, bounds, goals, free, held):
        self.rows = [*bounds, *goals]
        self.bottom = 1
        self.free = list(free)
        self.held = list(held)


def side_and_nudge(row):
    """What rows are compared by."""
    return row[-2], row[-1]


def climb(grid, goal):
    """Raise the goal in this row as far as it goes: None, or the column along which it goes on for ever."""
    at, column = _best_pivot(grid, goal)
    while at is not None:
        turn(grid, at, column)
        at, column = _best_pivot(grid, goal)
    return column


def turn(grid, at, column):
    """Let the variables of a row and of a column change places."""
    chosen = grid.rows[at]
    rows = [_turned_row(row, chosen, column, grid.bottom) for row in grid.rows]
    rows[at] = list(chosen)
    rows[at][column] = grid.bottom
    if chosen[column] < 0:
        rows = [[-number for number in row] for row in rows]
    grid.rows = rows
    grid.bottom = abs(chosen[column])
    grid.free[column], grid.held[at] = grid.held[at], grid.free[column]


def drop_column(grid, column):
    """Take a free variable out, which is 0 from here on."""
    grid.rows = [row[:column] + row[column + 1:] for row in grid.rows]
    grid.free = grid.free[:column] + grid.free[column + 1:]


def _turned_row(row, chosen, column, bottom):
    pivot, factor = chosen[column], row[column]
    # bottom divides each of these: the numbers of a grid are determinants made of those of the first one
    if factor == 0:
        return [number * pivot // bottom for number in row]
    turned = [(number * pivot - factor * beside) // bottom for number, beside in zip(row, chosen)]
    turned[column] = -factor
    return turned


def _best_pivot(grid, goal):
    """The row and the column to turn; no row if the goal is endless, and no column either if it is reached.

    The greatest gain is taken, and if even the nudges gain nothing, the least variables: so no grid comes again.
    """
    best_at, best_column = None, None
    gain, share = (-1, -1), 1
    for column in sorted(range(len(grid.free)), key=lambda place: grid.free[place]):
        slope = -grid.rows[goal][column]
        if slope > 0:
            at = _first_stop(grid, column)
            if at is None:
                return None, column
            row = grid.rows[at]
            if _times(side_and_nudge(row), slope * share) > _times(gain, row[column]):
                best_at, best_column = at, column
                gain, share = _times(side_and_nudge(row), slope), row[column]
    return best_at, best_column


def _first_stop(grid, column):
    """The row that first stops the free variable of this column from growing; None if none does."""
    best = None
    for at, row in enumerate(grid.rows[:len(grid.held)]):
        if row[column] > 0 and (best is None or _stops_earlier(grid, at, best, column)):
            best = at
    return best


def _stops_earlier(grid, at, other, column):
    """Whether one row stops the variable of the column ahead of another one; of equal ones, the least variable."""
    row, beside = grid.rows[at], grid.rows[other]
    mine = _times(side_and_nudge(row), beside[column])
    its = _times(side_and_nudge(beside), row[column])
    return mine < its or (mine == its and grid.held[at] < grid.held[other])


def _times(pair, factor):
    one, other = pair
    return one * factor, other * factor
