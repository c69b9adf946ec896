"""Call 10, follow."""

from tests.helper import (
    BIG, LineTest, actor, ask, counter, deed, facts, follow, goal, last, plan, state, tell, world,
)

# Deeds 0, 1 and 2 are of actor 0, each asking what the one before brings; deed 3 is of actor 1.
CHAIN = [facts(4), actor(15, 4), actor(0, 8), deed(0, 0, 0, 1), deed(0, 1, 0, 2), deed(0, 2, 0, 4), deed(1, 0, 0, 8)]


class Follow(LineTest):

    def test_a_plan(self):
        self.assert_last([0, 1], *CHAIN, follow(0, [0, 1, 2]))
        self.assert_last([0, 1], *CHAIN, follow(1, [3]))
        self.assert_last([0, 1], *CHAIN, world(2), follow(0, [2]))

    def test_a_plan_that_is_not_the_shortest(self):
        self.assert_last([0, 1], *CHAIN, follow(0, [0, 0, 1, 0, 1, 1, 2]))
        self.assert_last([0, 1], *CHAIN, follow(0, [0, 1, 2, 2, 0, 1]))
        self.assert_last([0, 1], *CHAIN, world(4), follow(0, [0, 1, 2]))
        self.assert_last([0, 1], *CHAIN, follow(1, [3, 3, 3]))

    def test_the_goal_may_be_reached_and_left_on_the_way(self):
        calls = [facts(1), actor(0, 1), deed(0, 0, 0, 1), deed(0, 0, 0, 0, 1)]
        self.assert_last([0, 1], *calls, follow(0, [0, 1, 0]))
        self.assert_last([0, 0, 3], *calls, follow(0, [0, 1]))
        self.assert_last([0, 0, 5], *calls, follow(0, [0, 1, 0, 1]))

    def test_the_first_cannot_be_done(self):
        for row in ([1], [2], [1, 0], [2, 1, 0], [1, 1, 1, 1], [2, 0, 1, 2]):
            self.assert_last([0, 0, 1], *CHAIN, follow(0, row))

    def test_one_in_the_middle_cannot_be_done(self):
        self.assert_last([0, 0, 2], *CHAIN, follow(0, [0, 2, 1]))
        self.assert_last([0, 0, 3], *CHAIN, follow(0, [0, 0, 2, 1, 2]))
        self.assert_last([0, 0, 2], *CHAIN, follow(0, [0, 2, 2, 1]))

    def test_the_last_cannot_be_done(self):
        self.assert_last([0, 0, 2], *CHAIN, follow(0, [0, 2]))
        self.assert_last([0, 0, 4], *CHAIN, follow(0, [0, 0, 0, 2]))
        self.assert_last([0, 0, 4], *CHAIN, deed(0, 0, 0, 0, 2), follow(0, [0, 1, 4, 2]))

    def test_the_last_cannot_be_done_though_the_goal_is_reached(self):
        calls = [facts(2), actor(0, 1), deed(0, 0, 0, 1), deed(0, 2)]
        self.assert_last([0, 0, 2], *calls, follow(0, [0, 1]))
        self.assert_last([0, 0, 1], *calls, tell(0, 0, 1), follow(0, [1]))
        self.assert_last([0, 0, 2], *calls, follow(0, [0, 1, 0]))

    def test_what_must_not_be_so(self):
        calls = [facts(2), actor(0, 2), deed(0, 0, 1, 2), deed(0, 0, 0, 1)]
        self.assert_last([0, 1], *calls, follow(0, [0]))
        self.assert_last([0, 0, 2], *calls, follow(0, [1, 0]))
        self.assert_last([0, 1], *calls, follow(0, [0, 1]))

    def test_all_can_be_done_and_the_goal_is_not_reached(self):
        self.assert_last([0, 0, 2], *CHAIN, follow(0, [0]))
        self.assert_last([0, 0, 3], *CHAIN, follow(0, [0, 1]))
        self.assert_last([0, 0, 6], *CHAIN, follow(0, [0, 1, 1, 0, 0]))
        self.assert_last([0, 0, 4], *CHAIN, goal(0, 4, 1), follow(0, [0, 1, 2]))

    def test_the_empty_row(self):
        self.assert_last([0, 0, 1], *CHAIN, follow(0, []))
        self.assert_last([0, 1], *CHAIN, world(4), follow(0, []))
        self.assert_last([0, 0, 1], *CHAIN, follow(1, []))
        self.assert_last([0, 1], *CHAIN, tell(1, 3, 1), follow(1, []))
        self.assert_last([0, 1], actor(), follow(0, []))

    def test_300_deeds(self):
        self.assert_last([0, 1], *CHAIN, follow(0, [0] * 298 + [1, 2]))
        self.assert_last([0, 0, 300], *CHAIN, follow(0, [0] * 299 + [2]))
        self.assert_last([0, 0, 301], *CHAIN, follow(0, [0] * 299 + [1]))
        self.assert_last([0, 0, 1], *CHAIN, follow(0, [2] * 300))
        self.assert_last([0, 0, 151], *CHAIN, follow(0, [0] * 150 + [2] * 150))

    def test_the_plan_that_plan_answers(self):
        for calls in (CHAIN, [facts(6), actor(63, 63)] + counter(0), [actor()]):
            row = last(*calls, plan(0))[2:]
            self.assert_last([0, 1], *calls, follow(0, row))
            for length in range(len(row)):
                self.assert_last([0, 0, length + 1], *calls, follow(0, row[:length]))

    def test_held_against_the_belief_not_the_world_that_is(self):
        calls = [facts(2), world(1), actor(0, 2), deed(0, 1, 0, 2)]
        self.assert_last([0, 0, 1], *calls, follow(0, [0]))
        self.assert_last([0, 1], *calls, tell(0, 0, 1), follow(0, [0]))
        self.assert_last([0, 1], *calls, tell(0, 0, 1), world(0), follow(0, [0]))

    def test_what_it_sees_on_the_way_is_not_asked(self):
        # Deeds are held against a belief, and the world that is stays as it is.
        calls = [facts(2), actor(3, 2), deed(0, 0, 0, 1), deed(0, 1, 0, 2)]
        self.assert_last([0, 1], *calls, follow(0, [0, 1]))

    def test_changes_nothing(self):
        for row in ([0, 1, 2], [0], [2], [], [0] * 300):
            self.assert_same_behind(CHAIN, follow(0, row))

    def test_the_next_call_begins_behind_the_row(self):
        for row in ([], [0], [0, 1, 2], [2] * 300):
            got = ask(*CHAIN, follow(0, row), plan(0), follow(0, row), state())
            self.assertEqual(got[-3], [0, 1, 0, 1, 2])
            self.assertEqual(got[-1], [0, 4, 0, 2, 4])

    def test_another_actors_deed(self):
        for row in ([3], [3, 0], [0, 3], [0, 1, 3, 2], [2, 3], [1, 3], [0, 1, 2, 3], [0] * 299 + [3]):
            self.assert_refused(-1, CHAIN, follow(0, row))
        for row in ([0], [1], [2], [3, 0], [0, 3], [3, 3, 3, 2]):
            self.assert_refused(-1, CHAIN, follow(1, row))

    def test_a_deed_that_there_is_not(self):
        for number in (-BIG, -1, 4, 5, 23, 24, BIG):
            for row in ([number], [0, number], [number, 0], [0, 1, number, 2], [2, number], [0] * 299 + [number]):
                self.assert_refused(-1, CHAIN, follow(0, row))
                self.assert_refused(-1, CHAIN, follow(1, row))
        self.assert_refused(-1, [actor()], follow(0, [0]))
        self.assert_refused(-1, [], follow(0, [0]))

    def test_24_deeds(self):
        calls = [facts(1), actor(0, 1)] + [deed(0)] * 22
        for place in range(3, 6):
            self.assert_range(calls, follow(0, [0, 0, 0]), place, 21)
        full = calls + [deed(0), deed(0, 0, 0, 1)]
        self.assert_last([0, 1], *full, follow(0, [22, 23]))
        self.assert_range(full, follow(0, [0, 0]), 4, 23)

    def test_range_of_the_actor(self):
        self.assert_actor_range(follow(0, []))
        for number in (-BIG, -1, 2, 4, BIG):
            for row in ([], [0], [3], [4], [-1], [0, 1, 2]):
                self.assert_refused(-1, CHAIN, follow(number, row))
