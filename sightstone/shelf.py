"""The shelf: stones of blocks under names, and which of them are alike."""

from sightstone.errors import Taken, Unknown
from sightstone.forms import least_form, move_between
from sightstone.names import checked_name
from sightstone.places import checked_block
from sightstone.stones import checked_stone


class Shelf:
    """Stones under names, in the order of putting."""

    def __init__(self):
        # Each name has the sizes, the stone and the least form; a dict keeps the order of putting.
        self.held = {}

    def put(self, name, sizes, places):
        """Put a stone under a name, and answer the names of those there that are alike to it."""
        checked_name(name)
        if name in self.held:
            raise Taken("a stone has this name already")
        block = checked_block(sizes)
        grains = checked_stone(block, places)
        form = form_key(block, grains)
        alike = [other for other, held in self.held.items() if held[2] == form]
        self.held[name] = (block, grains, form)
        return alike

    def take(self, name):
        """Take a stone away."""
        self.check_known(name)
        del self.held[name]

    def names(self):
        """Answer the names, in the order of putting."""
        return list(self.held)

    def stone(self, name):
        """Answer the tuple of the block's sizes and the stone that has this name."""
        self.check_known(name)
        block, grains, form = self.held[name]
        return (block, list(grains))

    def kinds(self):
        """Answer lists of the names of alike stones, by the order of putting."""
        groups = {}
        for name, held in self.held.items():
            groups.setdefault(held[2], []).append(name)
        return list(groups.values())

    def mate(self, name, other):
        """Answer the first move that brings the one stone onto the other one, or None."""
        sizes, grains = self.stone(name)
        others, goals = self.stone(other)
        return move_between(sizes, grains, others, goals)

    def check_known(self, name):
        """Raise Unknown where no stone has this name."""
        if name not in self.held:
            raise Unknown("no stone has this name")


def form_key(sizes, stone):
    """Answer the least form as a tuple that can be a key."""
    least, grains = least_form(sizes, stone)
    return (least, tuple(grains))
