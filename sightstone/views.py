"""What the eyes of looks see of a stone, while grains go from it."""

from sightstone.places import door_of, doors_of


class View:
    """The lines of one look, with the grains that are still on them."""

    def __init__(self, sizes, look, stone):
        way, picture = look
        self.signs = {door: sign for door, sign in zip(doors_of(sizes, way), picture)}
        self.doors = {grain: door_of(sizes, way, grain) for grain in stone}
        self.rows = {door: [] for door in self.signs}
        for grain in nearest_first(way, stone):
            self.rows[self.doors[grain]].append(grain)

    def sees(self, grain):
        """Tell whether no other grain hides this one."""
        return self.rows[self.doors[grain]][0] == grain

    def sign_for(self, grain):
        """Answer the sign for the door of the grain's line."""
        return self.signs[self.doors[grain]]

    def lose(self, grain):
        """Take the grain off its line, and answer a list of the grain that is seen there now, if any."""
        row = self.rows[self.doors[grain]]
        row.remove(grain)
        return row[:1]


def nearest_first(way, stone):
    """Answer the grains in an order in which none stands behind one that it hides."""
    # A step along the way makes a place greater or less just as the way itself is to nought.
    return sorted(stone, reverse=True) if way < (0, 0, 0) else sorted(stone)


def views_of(sizes, looks, stone):
    """Answer the views that the looks have of the stone, in the looks' order."""
    return [View(sizes, look, stone) for look in looks]


def told_to(views, grain):
    """Answer the rows (number of the look, sign) of all looks that see the grain, by number."""
    return [(number, view.sign_for(grain)) for number, view in enumerate(views) if view.sees(grain)]


def lost(views, grain):
    """Take the grain off all lines, and answer the grains that are seen on them now."""
    heads = []
    for view in views:
        heads.extend(view.lose(grain))
    return heads
