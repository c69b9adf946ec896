"""What the document says of the program as a whole."""

import contextlib
import inspect
import io
import sys
import unittest

from actorplans import desk
from actorplans.desk import answers
from tests.helper import (
    BIG, LineTest, actor, ask, belief, check, counted, counter, deed, deeds, facts, far, follow, goal, line, plan, proof,
    rounds, split, state, tell, turn, world,
)

# Each call, some of them refused, with what it answers.
STORY = [
    (facts(3), [0]), (actor(1, 4), [0, 0]), (actor(6, 0, 2), [0, 1]),
    (deed(0, 2, 0, 4), [0, 0]), (deed(1, 0, 0, 0, 2), [0, 1]), (deed(0, 1, 1), [-2]), (deed(2), [-1]), (facts(2), [-3]),
    (world(3), [0]), (plan(0), [0, 0]), (plan(1), [0, 1, 1]), (proof(0), [0, 1]), (proof(1), [-4]),
    (check(0, [1]), [0, 1]), (check(0, []), [0, 0]), (check(0, [1, 8]), [-1]), (tell(0, 0, 1), [-4]), (turn(0), [0, 1]),
    (tell(0, 1, 1), [0]), (plan(0), [0, 1, 0]), (follow(0, [0, 0]), [0, 1]), (follow(0, []), [0, 0, 1]),
    (follow(0, [1]), [-1]), (far(0, 7), [0, 1]), (far(0, 0), [0, 0]), (turn(1), [0, 2, 1]), (turn(0), [0, 3, 0]),
    (belief(0), [0, 1, 4, 0, 1, 0]), (belief(1), [0, 6, 0, 2, 0, 1]), (belief(2), [-1]), (state(), [0, 3, 1, 2, 2]),
    (deeds(), [0, 0, 2, 0, 4, 0, 1, 0, 0, 0, 2]), (goal(1, 1), [0]), (plan(1), [0, 0]), (world(2), [0]),
    (tell(0, 1, 1), [0]), (rounds(20), [0, 1, 6]), (rounds(0), [-1]), (turn(0), [0, 0]), (goal(1, 0, 2), [0]),
    (rounds(5), [0, 1, 4]), (state(), [0, 3, 4, 2, 2]),
]
MIXED = line([call for call, due in STORY])
MIXED_ANSWERS = [number for call, due in STORY for number in [len(due)] + due]


def no_change(*given, **named):
    raise AssertionError("what is handed in is changed")


class Unchanged(list):
    """A list that no one may change, not for a while either."""


for name in ("append", "clear", "extend", "insert", "pop", "remove", "reverse", "sort",
             "__setitem__", "__delitem__", "__iadd__", "__imul__"):
    setattr(Unchanged, name, no_change)


def every_call_400_times():
    """400 calls that go through the story again and again; nothing is refused for its length."""
    calls = [call for call, due in STORY]
    return (calls * 10)[:400]


def longest():
    """16000 numbers: 400 calls, rows of 300 numbers among them."""
    calls = [facts(6), actor(63, 0, 63), actor(0, 63)] + counter(0) + counter(1) + [deed(1), world(1)]
    for k in range(25):
        calls += [check(0, (list(range(1, 64)) * 5)[:300]), follow(1, [6 + number for number in counted()] + [12] * 237)]
    calls += [proof(0), plan(1), rounds(20), turn(1)] * 83
    calls += [state()] * (399 - len(calls))
    left = 16000 - sum(len(call) for call in calls)
    return calls + [check(0, [1] * (left - 3))]


class Interface(LineTest):

    def test_each_answer_of_a_story(self):
        self.assert_answers(*STORY)
        self.assertEqual({call[0] for call, due in STORY}, set(range(16)))

    def test_counts_stand_before_answers(self):
        self.assertEqual(answers(MIXED), MIXED_ANSWERS)
        self.assertEqual(answers([0, 6]), [1, 0])
        self.assertEqual(answers([0, 7]), [1, -1])
        self.assertEqual(answers([2, 0, 0, 0, 6, 0]), [2, 0, 0, 2, 0, 1])
        self.assertEqual(answers([14, 15, 14]), [5, 0, 0, 0, 0, 0, 1, 0, 5, 0, 0, 0, 0, 0])

    def test_rows_stand_behind_their_counts(self):
        self.assertEqual(answers([0, 1, 2, 1, 1, 0, 9, 0, 0, 9, 0, 1, 0, 9, 0, 2, 0, 1]), [1, 0, 2, 0, 0, 2, 0, 0, 2, 0, 1, 2, 0, 0])
        self.assertEqual(answers([2, 0, 0, 0, 10, 0, 0, 1, 0, 0, 0, 0, 0, 10, 0, 2, 0, 0]), [2, 0, 0, 2, 0, 1, 2, 0, 0, 2, 0, 1])
        self.assertEqual(answers([9, 0, 0, 10, 0, 0, 9, 0, 1, 14, 10, 0, 1, 15, 15]), [1, -1, 1, -1, 1, -1, 1, -1, 1, 0])

    def test_what_is_answered_has_no_count_of_its_own(self):
        self.assertEqual(answers([0, 1, 2, 1, 1, 0, 8, 0]), [1, 0, 2, 0, 0, 2, 0, 0])
        self.assertEqual(answers([2, 0, 0, 0, 1, 0, 0, 0, 0, 0, 15]), [2, 0, 0, 2, 0, 0, 6, 0, 0, 0, 0, 0, 0])

    def test_answers_is_called_as_told(self):
        self.assertEqual(list(inspect.signature(answers).parameters), ["calls"])
        self.assertEqual(desk.answers(calls=[0, 1]), [1, 0])

    def test_answers_are_a_list_of_whole_numbers(self):
        for calls in (MIXED, line(longest())):
            got = answers(calls)
            self.assertIs(type(got), list)
            self.assertEqual({type(number) for number in got}, {int})

    def test_the_list_stays_the_same(self):
        for calls in (MIXED, [0, 1], [3, 1], line([facts(6), actor(63, 63)] + counter(0) + [plan(0)]), line(longest()),
                      line(every_call_400_times())):
            kept = list(calls)
            got = answers(calls)
            self.assertEqual(calls, kept)
            self.assertEqual(answers(Unchanged(calls)), got)

    def test_what_is_given_back_is_new(self):
        first = answers(MIXED)
        first.append(7)
        first[0] = 9
        self.assertEqual(answers(MIXED), MIXED_ANSWERS)

    def test_a_second_time_answers_the_same(self):
        for calls in (MIXED, line(every_call_400_times()), line(longest())):
            first = answers(calls)
            for time in range(2):
                self.assertEqual(answers(calls), first, time)

    def test_nothing_is_kept_from_another_line(self):
        full = line([facts(6), world(63)] + [actor(63, 0, 1)] * 4 + [deed(0, 0, 0, 0, 1)] * 24 + [rounds(20), plan(0)])
        for time in range(3):
            answers(full)
            self.assertEqual(answers(MIXED), MIXED_ANSWERS, time)
            self.assertEqual(ask(actor(), deed(0), world(1), plan(1)), [[0, 0], [0, 0], [-1], [-1]])
            self.assertEqual(ask(plan(0)), [[-1]])
            self.assertEqual(ask(state(), deeds(), rounds(20), state()), [[0, 0, 0, 0, 0], [0], [0, 0, 0], [0, 0, 0, 0, 0]])

    def test_a_line_of_one_call(self):
        for call, due in ((facts(6), [0]), (deed(0), [-1]), (actor(), [0, 0]), (world(0), [0]), (tell(0, 0, 0), [-1]),
                          (goal(0), [-1]), (plan(0), [-1]), (far(0, 0), [-1]), (proof(0), [-1]), (check(0, []), [-1]),
                          (follow(0, []), [-1]), (turn(0), [-1]), (rounds(1), [0, 0, 0]), (belief(0), [-1]),
                          (state(), [0, 0, 0, 0, 0]), (deeds(), [0])):
            self.assertEqual(answers(list(call)), [len(due)] + due)

    def test_a_call_ends_where_the_next_begins(self):
        # Each call's last number is one that is a call's number too.
        self.assert_answers(
            (facts(3), [0]), (actor(7, 6, 1), [0, 0]), (deed(0, 0, 0, 6, 1), [0, 0]), (world(7), [0]), (far(0, 6), [0, 1]),
            (actor(0, 0, 0), [0, 1]), (tell(1, 2, 1), [0]), (goal(1, 4, 2), [0]), (plan(1), [0, 1]), (plan(0), [0, 1, 0]),
            (check(0, [7, 3, 2, 1, 0]), [0, 0]), (follow(0, [0]), [0, 1]), (turn(0), [0, 2, 0]), (belief(0), [0, 7, 6, 1, 6, 1]),
            (rounds(15), [0, 0, 6]), (rounds(14), [0, 0, 6]), (state(), [0, 3, 6, 2, 1]), (deeds(), [0, 0, 0, 0, 6, 1]),
        )

    def test_400_calls_of_a_story(self):
        got = ask(*every_call_400_times())
        self.assertEqual(got[:len(STORY)], [due for call, due in STORY])
        # Two actors find a place the second time and none later; two deeds the first time, then three at each up to 24.
        self.assertEqual(got[len(STORY):len(STORY) + 5], [[-3], [0, 2], [0, 3], [0, 2], [0, 3]])
        self.assertEqual(got.count([-5]), 8 * 2 + 2 + 3)

    def test_400_calls_of_long_plans(self):
        calls = [facts(6), actor(63, 63)] + counter(0)
        calls += [deed(0, 63) for k in range(18)]
        calls += [plan(0)] * (400 - len(calls))
        got = ask(*calls)
        self.assertEqual(got[26], got[399])
        self.assertEqual(len(got[399]), 65)

    def test_400_refusals(self):
        self.assertEqual(answers([7, 0, 0] * 400), [1, -1] * 400)
        self.assertEqual(answers([9, BIG, 1, -BIG] * 400), [1, -1] * 400)

    def test_16000_numbers(self):
        calls = longest()
        self.assertEqual(len(calls), 400)
        self.assertEqual(len(line(calls)), 16000)
        got = ask(*calls)
        self.assertEqual(got[17:67], [[0, 1]] * 50)
        self.assertEqual(got[67], [0] + list(range(1, 64)))
        self.assertLess(sum(len(part) for part in got), 1000000)

    def test_nothing_nests_deep(self):
        calls = line(longest())
        due = answers(calls)
        limit = sys.getrecursionlimit()
        sys.setrecursionlimit(len(inspect.stack()) + 40)
        try:
            got = answers(calls)
        finally:
            sys.setrecursionlimit(limit)
        self.assertEqual(got, due)

    def test_prints_nothing(self):
        out, err = io.StringIO(), io.StringIO()
        with contextlib.redirect_stdout(out), contextlib.redirect_stderr(err):
            answers(MIXED)
        self.assertEqual((out.getvalue(), err.getvalue()), ("", ""))

    def test_imports_nothing(self):
        answers(MIXED)
        loaded = set(sys.modules)
        answers(line(longest()))
        self.assertEqual(set(sys.modules), loaded)

    def test_split_sees_each_answer(self):
        self.assertEqual(split(answers(MIXED)), [due for call, due in STORY])


if __name__ == "__main__":
    unittest.main()
