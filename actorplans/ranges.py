"""Which numbers each call is told, and the range of each."""

# Of each call: what its numbers are, in their order.
KINDS = {
    0: ("how many facts",),
    1: ("actor", "set", "set", "set", "set"),
    2: ("set", "set", "set"),
    3: ("set",),
    4: ("actor", "fact", "yes or no"),
    5: ("actor", "set", "set"),
    6: ("actor",),
    7: ("actor", "set"),
    8: ("actor",),
    9: ("actor",),
    10: ("actor",),
    11: ("actor",),
    12: ("how many rounds",),
    13: ("actor",),
    14: (),
    15: (),
}

# Of each call that has a row behind its numbers: what the row's numbers are.
ROWS = {9: "set", 10: "deed"}

MOST_FACTS = 6
MOST_ROUNDS = 20


def how_many_numbers(call):
    """How many numbers stand behind the call's own number, ahead of its row if it has one."""
    return len(KINDS[call])


def has_row(call):
    """Whether a row stands behind the call's numbers."""
    return call in ROWS


def kind_at(call, place):
    """What the call's number at the place is; the row's numbers stand behind the others."""
    if place < len(KINDS[call]):
        return KINDS[call][place]
    return ROWS[call]


def least(kind):
    """The least number in the kind's range."""
    if kind == "how many rounds":
        return 1
    return 0


def above(story, kind):
    """The least number above the kind's range."""
    if kind == "actor":
        return len(story.actors)
    if kind == "deed":
        return len(story.deeds)
    if kind == "set":
        return 1 << story.facts
    if kind == "fact":
        return story.facts
    if kind == "how many facts":
        return MOST_FACTS + 1
    if kind == "how many rounds":
        return MOST_ROUNDS + 1
    return 2


def all_in_range(story, call, numbers):
    """Whether each of the call's numbers is in its range, those of its row too."""
    for place, number in enumerate(numbers):
        kind = kind_at(call, place)
        if number < least(kind) or number >= above(story, kind):
            return False
    return True
