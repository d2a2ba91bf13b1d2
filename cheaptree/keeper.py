"""A keeper: a net, its cheapest tree, and the deeds by which it came to be."""

from cheaptree.cheapest import cheapest
from cheaptree.deeds import changed
from cheaptree.errors import NoBack
from cheaptree.exchanges import between
from cheaptree.forests import cost_of
from cheaptree.nets import empty


class Keeper:
    """Keeps a net, at first the empty one, and goes back deed by deed."""

    def __init__(self):
        self.held = empty()
        # Pairs of a deed and the net ahead of it, the last one last.
        self.past = []

    def do(self, deed):
        """Does the deed; told is the pair (gone, come); refused as changed, and nothing is changed then."""
        behind = changed(self.held, deed)
        self.past.append((deed, self.held))
        return self.turn(behind)

    def turn(self, behind):
        """Takes up another net; told is the pair (gone, come) of the two cheapest trees."""
        told = between(cheapest(self.held), cheapest(behind))
        self.held = behind
        return told

    def net(self):
        """The net."""
        return self.held

    def tree(self):
        """Its cheapest tree."""
        return cheapest(self.held)

    def cost(self):
        """What that tree costs."""
        return cost_of(self.held, self.tree())

    def back(self):
        """Goes back of the last deed; told is the pair (gone, come); refused with NoBack where there is none."""
        if not self.past:
            raise NoBack()
        return self.turn(self.past.pop()[1])

    def deeds(self):
        """The tuple of the deeds done and not gone back of, as they were handed in."""
        return tuple([deed for deed, ahead in self.past])

    def copied(self):
        """A new Keeper, the same: what is done by one doesn't change the other."""
        new = Keeper()
        new.held = self.held
        new.past = list(self.past)
        return new
