"""What each call does and answers, once its numbers are known to be in their ranges.

The numbers of a call's row stand behind its other numbers, without their count. A reply refuses before it changes
anything, so that behind a refusal all is as it was.
"""

from actorplans.plans import place_of_failure, plan_from, proves, ways_from
from actorplans.ranges import all_in_range
from actorplans.story import Actor, Deed
from actorplans.turns import take_rounds, take_turn

NOT_IN_RANGE = -1
BOTH_WAYS = -2
NOT_THE_TIME = -3
NOT_SO = -4
NO_PLACE = -5

MOST_DEEDS = 24
MOST_ACTORS = 4


def reply_facts(story, numbers):
    """There are so many facts, and none is so."""
    if story.actors or story.deeds:
        return [NOT_THE_TIME]
    story.facts = numbers[0]
    story.world = 0
    return [0]


def reply_deed(story, numbers):
    """A new deed."""
    deed = Deed(numbers[0], numbers[1], numbers[2], numbers[3], numbers[4])
    if deed.must & deed.must_not or deed.become & deed.cease:
        return [BOTH_WAYS]
    if len(story.deeds) == MOST_DEEDS:
        return [NO_PLACE]
    story.deeds.append(deed)
    return [0, len(story.deeds) - 1]


def reply_actor(story, numbers):
    """A new actor, who looks at the world that is."""
    actor = Actor(numbers[0], numbers[1], numbers[2])
    if actor.goal & actor.goal_not:
        return [BOTH_WAYS]
    if len(story.actors) == MOST_ACTORS:
        return [NO_PLACE]
    actor.look(story.world)
    story.actors.append(actor)
    return [0, len(story.actors) - 1]


def reply_world(story, numbers):
    """Another world is, and all actors look at it."""
    story.set_world(numbers[0])
    return [0]


def reply_tell(story, numbers):
    """An actor believes what it is told of a fact that it does not see."""
    actor = story.actors[numbers[0]]
    fact = 1 << numbers[1]
    if actor.sees & fact:
        return [NOT_SO]
    if numbers[2] == 1:
        actor.belief = actor.belief | fact
    else:
        actor.belief = actor.belief & ~fact
    return [0]


def reply_goal(story, numbers):
    """Another goal for an actor."""
    if numbers[1] & numbers[2]:
        return [BOTH_WAYS]
    actor = story.actors[numbers[0]]
    actor.goal = numbers[1]
    actor.goal_not = numbers[2]
    return [0]


def reply_plan(story, numbers):
    """An actor's plan from its belief."""
    plan = plan_from(story, numbers[0], story.actors[numbers[0]].belief)
    if plan is None:
        return [0, 0]
    return [0, 1] + plan


def reply_far(story, numbers):
    """How far an actor's goal is from a world."""
    plan = plan_from(story, numbers[0], numbers[1])
    if plan is None:
        return [0, 0]
    return [0, len(plan) + 1]


def reply_proof(story, numbers):
    """The worlds that prove that an actor has no plan."""
    actor = numbers[0]
    belief = story.actors[actor].belief
    if plan_from(story, actor, belief) is not None:
        return [NOT_SO]
    return [0] + sorted(ways_from(story, actor, belief))


def reply_check(story, numbers):
    """Whether worlds prove that an actor has no plan."""
    if proves(story, numbers[0], numbers[1:]):
        return [0, 1]
    return [0, 0]


def reply_follow(story, numbers):
    """Whether deeds are an actor's plan, and where they fail."""
    for number in numbers[1:]:
        if story.deeds[number].actor != numbers[0]:
            return [NOT_IN_RANGE]
    place = place_of_failure(story, numbers[0], numbers[1:])
    if place == 0:
        return [0, 1]
    return [0, 0, place]


def reply_turn(story, numbers):
    """An actor takes a turn."""
    return [0] + take_turn(story, numbers[0])


def reply_rounds(story, numbers):
    """All actors take their turns, round by round."""
    counted = take_rounds(story, numbers[0])
    return [0, counted, story.world]


def reply_belief(story, numbers):
    """All of an actor, and whether it has what it wants."""
    actor = story.actors[numbers[0]]
    reached = 1 if actor.is_content(story.world) else 0
    return [0, actor.sees, actor.goal, actor.goal_not, actor.belief, reached]


def reply_state(story, numbers):
    """The world that is, and how many facts, actors and deeds there are."""
    return [0, story.facts, story.world, len(story.actors), len(story.deeds)]


def reply_deeds(story, numbers):
    """All deeds as they were told."""
    told = [0]
    for deed in story.deeds:
        told.extend([deed.actor, deed.must, deed.must_not, deed.become, deed.cease])
    return told


REPLIES = {
    0: reply_facts,
    1: reply_deed,
    2: reply_actor,
    3: reply_world,
    4: reply_tell,
    5: reply_goal,
    6: reply_plan,
    7: reply_far,
    8: reply_proof,
    9: reply_check,
    10: reply_follow,
    11: reply_turn,
    12: reply_rounds,
    13: reply_belief,
    14: reply_state,
    15: reply_deeds,
}


def reply(story, call, numbers):
    """What the call answers; of several refusals the one nearest to 0, so the ranges come first."""
    if not all_in_range(story, call, numbers):
        return [NOT_IN_RANGE]
    return REPLIES[call](story, numbers)
