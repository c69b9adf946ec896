"""Calls as lists of numbers, and ways to ask for their answers."""

import unittest

from actorplans.desk import answers

BIG = 1000000000000000000
MOST_CALLS = 400
MOST_NUMBERS = 16000


def facts(n):
    return [0, n]


def deed(actor, must=0, must_not=0, become=0, cease=0):
    return [1, actor, must, must_not, become, cease]


def actor(sees=0, goal=0, goal_not=0):
    return [2, sees, goal, goal_not]


def world(facts_so):
    return [3, facts_so]


def tell(number, fact, v):
    return [4, number, fact, v]


def goal(number, to_be=0, not_to_be=0):
    return [5, number, to_be, not_to_be]


def plan(number):
    return [6, number]


def far(number, start):
    return [7, number, start]


def proof(number):
    return [8, number]


def check(number, worlds):
    return [9, number, len(worlds)] + list(worlds)


def follow(number, row):
    return [10, number, len(row)] + list(row)


def turn(number):
    return [11, number]


def rounds(k):
    return [12, k]


def belief(number):
    return [13, number]


def state():
    return [14]


def deeds():
    return [15]


def line(calls):
    """The calls one behind another, held against what a line may have."""
    numbers = [number for call in calls for number in call]
    if not 1 <= len(calls) <= MOST_CALLS or len(numbers) > MOST_NUMBERS:
        raise AssertionError("a test's line is longer than a line may be")
    return numbers


def split(answered):
    """The answers one by one, without their counts."""
    parts = []
    at = 0
    while at < len(answered):
        count = answered[at]
        if count < 1 or at + 1 + count > len(answered):
            raise AssertionError(f"count {count} at {at} in {answered}")
        parts.append(answered[at + 1:at + 1 + count])
        at += 1 + count
    return parts


def ask(*calls):
    """Each call's answer."""
    parts = split(answers(line(calls)))
    if len(parts) != len(calls):
        raise AssertionError(f"{len(calls)} calls have {len(parts)} answers")
    return parts


def last(*calls):
    """The last call's answer."""
    return ask(*calls)[-1]


def believes(calls, number, fact):
    """Whether the actor believes that the fact is so, as its plan for just that shows."""
    so = last(*calls, goal(number, 1 << fact), plan(number))
    not_so = last(*calls, goal(number, 0, 1 << fact), plan(number))
    if (so == [0, 1]) == (not_so == [0, 1]):
        raise AssertionError(f"{so} and {not_so}")
    return so == [0, 1]


def counter(number):
    """Deeds of the actor by which six facts count upwards, one world behind another."""
    return [deed(number, (1 << k) - 1, 1 << k, 1 << k, (1 << k) - 1) for k in range(6)]


def counted():
    """The numbers of the counter's deeds from the empty world up to the full one, if they are the first deeds."""
    return [(k & -k).bit_length() - 1 for k in range(1, 64)]


def probes():
    """Calls whose answers together show how all things are, and that plans and places for more are the same too."""
    calls = [state(), deeds()]
    for number in range(5):
        calls += [belief(number), plan(number)]
    return calls + [actor()] * 5 + [deed(0)] * 25 + [state(), deeds()]


class LineTest(unittest.TestCase):
    """A test of lines of calls."""

    def assert_answers(self, *pairs):
        """Each pair is a call and the answer that is due."""
        got = ask(*[call for call, due in pairs])
        for place, (call, due) in enumerate(pairs):
            self.assertEqual(got[place], due, f"call {place}: {call}")

    def assert_last(self, due, *calls):
        self.assertEqual(last(*calls), due, calls)

    def assert_same_behind(self, before, call):
        """Behind the call all is as it was; gives back what it answers."""
        got = ask(*before, call, *probes())
        plain = ask(*before, *probes())
        self.assertEqual(got[len(before) + 1:], plain[len(before):], call)
        return got[len(before)]

    def assert_refused(self, number, before, call):
        """The call is refused with the number alone, and behind it all is as it was."""
        self.assertEqual(self.assert_same_behind(before, call), [number], call)

    def assert_range(self, before, call, place, highest, lowest=0):
        """The call's number at the place may be the lowest to the highest; any other is refused with -1.

        Where the highest is below the lowest, none may be.
        """
        def with_number(number):
            return call[:place] + [number] + call[place + 1:]

        for number in sorted({lowest, highest}):
            if lowest <= number <= highest:
                self.assertEqual(last(*before, with_number(number))[0], 0, with_number(number))
        for number in (-BIG, -BIG + 1, -2, lowest - 1, highest + 1, highest + 2, 1 << 59, BIG - 1, BIG):
            self.assert_refused(-1, before, with_number(number))

    def assert_actor_range(self, call):
        """The call's first number may be each actor that there is, where there are none, one, two and four."""
        self.assert_range([], call, 1, -1)
        self.assert_range([facts(6)], call, 1, -1)
        for how_many in (1, 2, 4):
            calls = [facts(2), world(1)] + [actor(1, 2)] * how_many
            self.assert_range(calls, call, 1, how_many - 1)
