"""What the interface says of the program as a whole."""

import inspect
import unittest

from actorplans import desk
from actorplans.desk import answers
from tests.helper import LineTest, actor, ask, counter, deed, facts, far, goal, line, plan, tell, world

MIXED = line([
    facts(3), actor(1, 4), actor(6, 0, 2), deed(0, 2, 0, 4), deed(1, 0, 0, 0, 2), deed(0, 1, 1), deed(2), facts(2),
    world(3), plan(0), plan(1), tell(0, 1, 1), plan(0), tell(0, 0, 1), far(0, 7), far(0, 0), goal(1, 1), plan(1),
])
MIXED_ANSWERS = [
    1, 0, 2, 0, 0, 2, 0, 1, 2, 0, 0, 2, 0, 1, 1, -2, 1, -1, 1, -3,
    1, 0, 2, 0, 0, 3, 0, 1, 1, 1, 0, 3, 0, 1, 0, 1, -4, 2, 0, 1, 2, 0, 0, 1, 0, 2, 0, 0,
]


def no_change(*given, **named):
    raise AssertionError("what is handed in is changed")


class Unchanged(list):
    """A list that no one may change, not for a while either."""


for name in ("append", "clear", "extend", "insert", "pop", "remove", "reverse", "sort",
             "__setitem__", "__delitem__", "__iadd__", "__imul__"):
    setattr(Unchanged, name, no_change)


class Interface(LineTest):

    def test_counts_stand_before_answers(self):
        self.assertEqual(answers(MIXED), MIXED_ANSWERS)
        self.assertEqual(answers([0, 6]), [1, 0])
        self.assertEqual(answers([0, 7]), [1, -1])
        self.assertEqual(answers([2, 0, 0, 0, 6, 0]), [2, 0, 0, 2, 0, 1])

    def test_answers_is_called_as_told(self):
        self.assertEqual(list(inspect.signature(answers).parameters), ["calls"])
        self.assertEqual(desk.answers(calls=[0, 1]), [1, 0])

    def test_answers_are_a_list_of_whole_numbers(self):
        got = answers(MIXED)
        self.assertIs(type(got), list)
        for number in got:
            self.assertIs(type(number), int)

    def test_the_list_stays_the_same(self):
        for calls in (MIXED, [0, 1], [3, 1], line([facts(6), actor(63, 63)] + counter(0) + [plan(0)])):
            kept = list(calls)
            answers(calls)
            self.assertEqual(calls, kept)
            self.assertEqual(answers(Unchanged(calls)), answers(kept))

    def test_what_is_given_back_is_new(self):
        first = answers(MIXED)
        first.append(7)
        first[0] = 9
        self.assertEqual(answers(MIXED), MIXED_ANSWERS)

    def test_a_second_time_answers_the_same(self):
        for time in range(3):
            self.assertEqual(answers(MIXED), MIXED_ANSWERS, time)

    def test_nothing_is_kept_from_another_line(self):
        full = line([facts(6), world(63)] + [actor(63, 1)] * 4 + [deed(0)] * 24)
        for time in range(3):
            answers(full)
            self.assertEqual(answers(MIXED), MIXED_ANSWERS, time)
            self.assertEqual(ask(actor(), deed(0), world(1), plan(1)), [[0, 0], [0, 0], [-1], [-1]])
            self.assertEqual(ask(plan(0)), [[-1]])

    def test_a_call_ends_where_the_next_begins(self):
        # Each call's last number is one that is a call's number too.
        self.assert_answers(
            (facts(3), [0]), (actor(7, 6, 1), [0, 0]), (deed(0, 0, 0, 6, 1), [0, 0]), (world(7), [0]), (far(0, 6), [0, 1]),
            (actor(0, 0, 0), [0, 1]), (tell(1, 2, 1), [0]), (goal(1, 4, 2), [0]), (plan(1), [0, 1]), (plan(0), [0, 1, 0]),
        )

    def test_400_calls(self):
        calls = [facts(6), actor(63, 63)] + counter(0)
        calls += [deed(0, 63) for k in range(18)]
        calls += [plan(0)] * (400 - len(calls))
        got = ask(*calls)
        self.assertEqual(got[26], got[399])
        self.assertEqual(len(got[399]), 65)

    def test_400_refusals(self):
        self.assertEqual(answers([7, 0, 0] * 400), [1, -1] * 400)


if __name__ == "__main__":
    unittest.main()
