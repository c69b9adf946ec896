"""The search for an actor's plan, and the proof that there is none."""


def deeds_of(story, actor):
    """The numbers of the actor's deeds, ascending."""
    return [number for number, deed in enumerate(story.deeds) if deed.actor == actor]


def ways_from(story, actor, world):
    """Each world that the actor's own deeds come to from the world, with the best way there, as numbers of deeds.

    Worlds are gone through in the order in which they are come to. As deeds are tried by their numbers, that is
    the order of their best ways, fewest deeds first and then least numbers first: so the first way that comes to a
    world is its best, and the worlds stand in the order of their best ways.
    """
    own = deeds_of(story, actor)
    ways = {world: []}
    waiting = [world]
    at = 0
    while at < len(waiting):
        here = waiting[at]
        for number in own:
            deed = story.deeds[number]
            if deed.can_be_done(here):
                there = deed.brings(here)
                if there not in ways:
                    ways[there] = ways[here] + [number]
                    waiting.append(there)
        at = at + 1
    return ways


def plan_from(story, actor, world):
    """The actor's plan from the world, as numbers of deeds; None if there is none."""
    ways = ways_from(story, actor, world)
    for there in ways:
        if story.actors[actor].is_content(there):
            return ways[there]
    return None


def proves(story, actor, worlds):
    """Whether the worlds prove that the actor has no plan: it is in them, cannot leave them and is content in none."""
    within = {}
    for world in worlds:
        within[world] = True
    if story.actors[actor].belief not in within:
        return False
    own = deeds_of(story, actor)
    for world in within:
        if story.actors[actor].is_content(world):
            return False
        for number in own:
            deed = story.deeds[number]
            if deed.can_be_done(world) and deed.brings(world) not in within:
                return False
    return True


def place_of_failure(story, actor, numbers):
    """The place, from 1, at which the deeds fail as the actor's plan from its belief; 0 if they are one."""
    world = story.actors[actor].belief
    for place, number in enumerate(numbers, start=1):
        deed = story.deeds[number]
        if not deed.can_be_done(world):
            return place
        world = deed.brings(world)
    if story.actors[actor].is_content(world):
        return 0
    return len(numbers) + 1
