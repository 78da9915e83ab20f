"""Grids of cells, and the wishes that choose regions of them."""

from toldwithin.errors import NoCell, NoGrid, NoWish
from toldwithin.kinds import are_names, are_unlike_names, is_pair, is_sequence

MOST_AXES = 3
MOST_MEMBERS = 4
MOST_CELLS = 8


class Grid:
    """A grid of cells: one cell for each choice of a member of each axis."""

    def __init__(self, axes):
        if not are_pairs_of_axes(axes):
            raise NoGrid("axes")
        if not are_unlike_names([axis[0] for axis in axes]):
            raise NoGrid("name")
        if not all([are_members(axis[1]) for axis in axes]):
            raise NoGrid("members")
        self.axes = tuple([(name, tuple(members)) for name, members in axes])
        self.cells = cells_of(self.axes)
        self.size = len(self.cells)
        if self.size > MOST_CELLS:
            raise NoGrid("cells")

    def __eq__(self, other):
        return isinstance(other, Grid) and self.axes == other.axes

    def place_of(self, members):
        """The place of the cell with these members."""
        if not is_sequence(members):
            raise NoCell()
        wanted = tuple(members)
        for place, cell in enumerate(self.cells):
            if cell == wanted:
                return place
        raise NoCell()

    def region(self, wish):
        """The ascending places of the cells that a wish chooses."""
        return region_beside(self, wish, ())


def are_pairs_of_axes(axes):
    return is_sequence(axes) and 1 <= len(axes) <= MOST_AXES and all([is_pair(axis) for axis in axes])


def are_members(found):
    return are_unlike_names(found) and len(found) <= MOST_MEMBERS


def cells_of(axes):
    """All cells; the last axis changes first."""
    cells = [()]
    for _, members in axes:
        cells = [(*cell, member) for cell in cells for member in members]
    return tuple(cells)


def place_of_axis(grid, name):
    """The place of an axis among the axes, or None if the grid has none of this name."""
    for place, axis in enumerate(grid.axes):
        if axis[0] == name:
            return place
    return None


def region_beside(grid, wish, taken):
    """The region of a wish that may not name the taken axes."""
    wanted = wanted_members(grid, wish, taken)
    return tuple([place for place, cell in enumerate(grid.cells) if is_wanted(grid, cell, wanted)])


def wanted_members(grid, wish, taken):
    """A dict of the members that a wish tells for each axis that it names."""
    if not is_sequence(wish):
        raise NoWish(-1, "wish")
    wanted = {}
    for place, pair in enumerate(wish):
        if not is_pair(pair):
            raise NoWish(place, "pair")
        name, members = pair
        at = place_of_axis(grid, name)
        if at is None or name in taken or name in wanted:
            raise NoWish(place, "axis")
        if not are_members_among(members, grid.axes[at][1]):
            raise NoWish(place, "members")
        wanted[name] = tuple(members)
    return wanted


def are_members_among(found, members):
    return are_names(found) and all([name in members for name in found])


def is_wanted(grid, cell, wanted):
    """Whether a cell has one of the wanted members at each axis that has such."""
    for (name, _), member in zip(grid.axes, cell):
        if name in wanted and member not in wanted[name]:
            return False
    return True
