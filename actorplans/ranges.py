"""Which numbers each call is told, and the range of each."""

# Of each call: what its numbers are, in their order.
KINDS = {
    0: ("how many facts",),
    1: ("actor", "set", "set", "set", "set"),
    2: ("set", "set", "set"),
    3: ("set",),
    4: ("actor", "fact", "yes or no"),
    5: ("actor", "set", "set"),
    6: ("actor",),
    7: ("actor", "set"),
}

MOST_FACTS = 6


def how_many_numbers(call):
    """How many numbers stand behind the call's own number."""
    return len(KINDS[call])


def above(story, kind):
    """The least number above the kind's range; each range begins at 0."""
    if kind == "actor":
        return len(story.actors)
    if kind == "set":
        return 1 << story.facts
    if kind == "fact":
        return story.facts
    if kind == "how many facts":
        return MOST_FACTS + 1
    return 2


def all_in_range(story, call, numbers):
    """Whether each of the call's numbers is in its range."""
    for number, kind in zip(numbers, KINDS[call]):
        if number < 0 or number >= above(story, kind):
            return False
    return True
