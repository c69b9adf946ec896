"""How actors take their turns in the world that is."""

from actorplans.plans import plan_from

# What may come of a turn.
CONTENT = 0
NO_PLAN = 1
DONE = 2
STOPPED = 3


def take_turn(story, actor):
    """The actor takes a turn: what came of it and, if it tried a deed, that deed's number."""
    one = story.actors[actor]
    plan = plan_from(story, actor, one.belief)
    if plan is None:
        return [NO_PLAN]
    if plan == []:
        return [CONTENT]
    deed = story.deeds[plan[0]]
    if deed.can_be_done(story.world):
        one.belief = deed.brings(one.belief)
        story.set_world(deed.brings(story.world))
        return [DONE, plan[0]]
    one.learn(deed.must | deed.must_not, story.world)
    return [STOPPED, plan[0]]


def take_round(story):
    """All actors take a turn by their numbers: whether something happened at one of them."""
    happened = False
    for actor in range(len(story.actors)):
        outcome = take_turn(story, actor)[0]
        if outcome == DONE or outcome == STOPPED:
            happened = True
    return happened


def take_rounds(story, most):
    """Rounds up to the most, or until nothing happens in one: how many of them counted."""
    counted = 0
    while counted < most and take_round(story):
        counted = counted + 1
    return counted
