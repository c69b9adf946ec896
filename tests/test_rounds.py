"""Call 12, rounds."""

from tests.helper import (
    BIG, LineTest, actor, ask, belief, counter, deed, facts, goal, last, plan, rounds, state, tell, turn, world,
)

# Two who undo what the other does, round after round.
RIVALS = [facts(2), actor(3, 1), actor(3, 0, 1), deed(0, 0, 0, 1), deed(1, 0, 0, 2, 1)]


class Rounds(LineTest):

    def test_no_actor_at_all(self):
        for k in (1, 2, 20):
            self.assert_last([0, 0, 0], rounds(k))
            self.assert_last([0, 0, 5], facts(3), world(5), rounds(k))

    def test_nothing_happens(self):
        for before in ([actor()], [actor()] * 4, [facts(1), actor(0, 1)], [facts(2), world(2), actor(2, 2), deed(0, 0, 0, 1)],
                       [facts(1), actor(0), actor(0, 1), deed(0, 0, 0, 1)]):
            for k in (1, 20):
                world_due = last(*before, state())[2]
                self.assertEqual(self.assert_same_behind(before, rounds(k)), [0, 0, world_due])

    def test_fewer_than_k(self):
        calls = [facts(3), actor(7, 4), deed(0, 2, 0, 4), deed(0, 1, 0, 2), deed(0, 0, 0, 1)]
        self.assert_last([0, 3, 7], *calls, rounds(20))
        self.assert_last([0, 3, 7], *calls, rounds(4))
        self.assert_last([0, 0, 7], *calls, rounds(20), rounds(20))

    def test_all_k(self):
        calls = [facts(3), actor(7, 4), deed(0, 2, 0, 4), deed(0, 1, 0, 2), deed(0, 0, 0, 1)]
        self.assert_last([0, 1, 1], *calls, rounds(1))
        self.assert_last([0, 2, 3], *calls, rounds(2))
        self.assert_last([0, 3, 7], *calls, rounds(3))
        self.assert_last([0, 1, 3], *calls, rounds(1), rounds(1))
        self.assert_last([0, 1, 7], *calls, rounds(2), rounds(20))

    def test_20_rounds_and_more_left(self):
        calls = [facts(6), actor(63, 63)] + counter(0)
        for k in (1, 2, 19, 20):
            self.assert_last([0, k, k], *calls, rounds(k))
        self.assert_last([0, 20, 40], *calls, rounds(20), rounds(20))
        self.assert_last([0, 20, 60], *calls, rounds(20), rounds(20), rounds(20))
        self.assert_last([0, 3, 63], *calls, rounds(20), rounds(20), rounds(20), rounds(20))

    def test_rounds_that_have_no_end(self):
        for k in range(1, 21):
            self.assert_last([0, k, 2], *RIVALS, rounds(k))
        self.assert_last([0, 20, 2], *RIVALS, rounds(20), rounds(20))

    def test_a_deed_that_cannot_be_done_is_something_that_happens(self):
        calls = [facts(2), actor(0, 2), tell(0, 0, 1), deed(0, 1, 0, 2)]
        self.assert_last([0, 1, 0], *calls, rounds(20))
        self.assert_last([0, 1, 0], *calls, rounds(1))
        self.assert_last([0, 0, 2, 0, 0, 0], *calls, rounds(20), belief(0))

    def test_a_deed_that_changes_nothing_in_the_world_is_something_that_happens(self):
        calls = [facts(1), world(1), actor(0, 1), deed(0, 0, 0, 1)]
        self.assert_last([0, 1, 1], *calls, rounds(20))
        self.assert_last([0, 0, 1, 0, 1, 1], *calls, rounds(20), belief(0))

    def test_learns_and_plans_anew(self):
        calls = [facts(4), world(1), actor(0, 8), deed(0, 0, 1, 8), deed(0, 1, 0, 2), deed(0, 2, 0, 8)]
        self.assert_last([0, 3, 11], *calls, rounds(20))
        self.assert_last([0, 1, 1], *calls, rounds(1))
        self.assert_last([0, 2, 3], *calls, rounds(2))

    def test_by_their_numbers(self):
        # Who comes first takes it; behind that no other can.
        for first in range(4):
            calls = [facts(6), world(1)] + [actor(63, 2 << k) for k in range(4)]
            calls += [deed(k, 1, 0, 2 << k, 1) for k in (3, 2, 1, 0)]
            calls += [goal(k) for k in range(first)]
            self.assert_last([0, 1, 2 << first], *calls, rounds(20))

    def test_each_in_the_world_that_those_before_have_left(self):
        chain = [facts(5), world(1)] + [actor(31, 16)] * 4
        upwards = [deed(k, 1 << k, 0, 2 << k) for k in range(4)]
        want = [goal(k, 2 << k) for k in range(4)]
        self.assert_last([0, 1, 31], *chain, *upwards, *want, rounds(20))
        downwards = [deed(3 - k, 1 << k, 0, 2 << k) for k in range(4)]
        want = [goal(3 - k, 2 << k) for k in range(4)]
        self.assert_last([0, 4, 31], *chain, *downwards, *want, rounds(20))
        self.assert_last([0, 1, 3], *chain, *downwards, *want, rounds(1))
        self.assert_last([0, 2, 7], *chain, *downwards, *want, rounds(2))

    def test_it_is_enough_that_something_happens_at_one_turn(self):
        for busy in range(4):
            calls = [facts(6)] + [actor(63, 0)] * 4 + counter(busy) + [goal(busy, 8, 7)]
            self.assert_last([0, 8, 8], *calls, rounds(20))
            self.assert_last([0, 5, 5], *calls, rounds(5))

    def test_a_round_in_which_the_last_actor_alone_can_do_nothing(self):
        # Both are busy for two rounds, then the first alone for one more.
        calls = [facts(5), actor(31, 7), actor(31, 24)]
        calls += [deed(0, 0, 0, 1), deed(0, 1, 0, 2), deed(0, 2, 0, 4), deed(1, 0, 0, 8), deed(1, 8, 0, 16)]
        self.assert_last([0, 2, 27], *calls, rounds(2))
        self.assert_last([0, 3, 31], *calls, rounds(20))

    def test_as_turns_one_by_one(self):
        calls = [facts(4), world(9), actor(1, 6), actor(12, 0, 9), actor(0, 8, 2), tell(2, 0, 1)]
        calls += [deed(0, 1, 0, 2, 1), deed(0, 2, 8, 4), deed(1, 8, 0, 1, 8), deed(2, 1, 4, 8, 2), deed(1, 1, 0, 0, 1)]
        every = [belief(0), belief(1), belief(2), state()]
        for k in range(1, 21):
            one_by_one = ask(*calls, *[turn(0), turn(1), turn(2)] * k, *every)[-4:]
            self.assertEqual(ask(*calls, rounds(k), *every)[-4:], one_by_one)

    def test_the_round_that_does_not_count_leaves_all_as_it_was(self):
        calls = [facts(3), actor(7, 4), actor(1, 1), deed(0, 2, 0, 4), deed(0, 1, 0, 2), deed(0, 0, 0, 1)]
        every = [belief(0), belief(1), state(), plan(0), plan(1)]
        self.assertEqual(ask(*calls, rounds(3), *every)[-5:], ask(*calls, rounds(20), *every)[-5:])

    def test_what_actors_believe_behind_it(self):
        calls = RIVALS + [actor(0), actor(2)]
        self.assertEqual(
            ask(*calls, rounds(7), *[belief(k) for k in range(4)])[-4:],
            [[0, 3, 1, 0, 2, 0], [0, 3, 0, 1, 2, 1], [0, 0, 0, 0, 0, 1], [0, 2, 0, 0, 2, 1]],
        )

    def test_range(self):
        self.assert_range([], rounds(1), 1, 20, 1)
        self.assert_range(RIVALS, rounds(1), 1, 20, 1)
        for k in (-BIG, -20, -1, 0, 21, 22, 400, BIG):
            self.assert_refused(-1, RIVALS, rounds(k))
        for k in (1, 20):
            self.assert_last([0, k, 2], *RIVALS, rounds(k))
