"""The desk that a line of calls is handed to."""

from actorplans.ranges import has_row, how_many_numbers
from actorplans.replies import reply
from actorplans.story import Story


def answers(calls):
    """What the calls answer one behind another, each answer with how many numbers it has before it."""
    story = Story()
    answered = []
    at = 0
    while at < len(calls):
        call = calls[at]
        behind = at + 1 + how_many_numbers(call)
        numbers = calls[at + 1:behind]
        if has_row(call):
            first = behind + 1
            behind = first + calls[behind]
            numbers = numbers + calls[first:behind]
        answer = reply(story, call, numbers)
        answered.append(len(answer))
        answered.extend(answer)
        at = behind
    return answered
