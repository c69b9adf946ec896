"""What a line of calls keeps: the world that is, its actors and their deeds.

A set of facts, and so a world too, is a number: the sum of 2^i over its facts i.
"""


class Deed:
    """What an actor can do, what that asks of a world and what it changes there."""

    def __init__(self, actor, must, must_not, become, cease):
        self.actor = actor
        self.must = must
        self.must_not = must_not
        self.become = become
        self.cease = cease

    def can_be_done(self, world):
        """Whether the deed can be done in the world."""
        return holds(world, self.must, self.must_not)

    def brings(self, world):
        """The world that doing the deed in the world brings."""
        return (world & ~self.cease) | self.become


class Actor:
    """Who acts: what it sees, what it wants and the world that it believes in."""

    def __init__(self, sees, goal, goal_not):
        self.sees = sees
        self.goal = goal
        self.goal_not = goal_not
        self.belief = 0

    def learn(self, facts, world):
        """Believe of each of the facts what is so in the world."""
        self.belief = (self.belief & ~facts) | (world & facts)

    def look(self, world):
        """Believe of each seen fact what is so in the world."""
        self.learn(self.sees, world)

    def is_content(self, world):
        """Whether the world has the actor's goal reached."""
        return holds(world, self.goal, self.goal_not)


class Story:
    """One line's state, as it is at the line's beginning."""

    def __init__(self):
        self.facts = 0
        self.world = 0
        self.actors = []
        self.deeds = []

    def set_world(self, world):
        """This is the world that is now, and all actors look at it."""
        self.world = world
        for actor in self.actors:
            actor.look(world)


def holds(world, wanted, unwanted):
    """Whether all wanted facts are so in the world and no unwanted one is."""
    return world & wanted == wanted and world & unwanted == 0
