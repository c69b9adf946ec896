"""The search for an actor's plan."""


def deeds_of(story, actor):
    """The numbers of the actor's deeds, ascending."""
    return [number for number, deed in enumerate(story.deeds) if deed.actor == actor]


def plan_from(story, actor, world):
    """The actor's plan from the world, as numbers of deeds; None if there is none.

    Worlds are gone through in the order in which they are come to. As deeds are tried by their numbers, that is
    the order of their best plans, fewest deeds first and then least numbers first: so the first plan that comes
    to a world is its best, and the first world that has the goal reached ends the search.
    """
    own = deeds_of(story, actor)
    plans = {world: []}
    waiting = [world]
    at = 0
    while at < len(waiting):
        here = waiting[at]
        if story.actors[actor].is_content(here):
            return plans[here]
        for number in own:
            deed = story.deeds[number]
            if deed.can_be_done(here):
                there = deed.brings(here)
                if there not in plans:
                    plans[there] = plans[here] + [number]
                    waiting.append(there)
        at = at + 1
    return None
