"""Call 9, check."""

from tests.helper import (
    BIG, LineTest, actor, ask, check, counter, deed, facts, goal, last, plan, proof, state, tell, world,
)

# The actor believes in 1 and comes to 1, 3 and 2; 4 and more have its goal reached.
CHAIN = [facts(3), world(1), actor(3, 4), deed(0, 1, 2, 2), deed(0, 3, 0, 0, 1)]


class Check(LineTest):

    def test_a_row_that_proves_it(self):
        self.assert_last([0, 1], *CHAIN, check(0, [1, 2, 3]))
        self.assert_last([0, 1], facts(1), actor(1, 1), check(0, [0]))
        self.assert_last([0, 1], facts(6), world(63), actor(63, 0, 63), check(0, [63]))

    def test_in_whatever_order_and_more_than_once(self):
        for row in ([3, 2, 1], [2, 3, 1], [1, 1, 2, 3], [3, 3, 3, 1, 2, 1, 2], [2, 1, 3] * 100):
            self.assert_last([0, 1], *CHAIN, check(0, row))

    def test_worlds_that_it_does_not_come_to_may_be_there(self):
        self.assert_last([0, 1], *CHAIN, check(0, [0, 1, 2, 3]))
        self.assert_last([0, 1], facts(6), actor(0, 32), deed(0, 1, 0, 2), check(0, list(range(32))))

    def test_without_the_belief(self):
        for row in ([], [2, 3], [3], [2], [0], [0, 2], [2] * 300):
            self.assert_last([0, 0], *CHAIN, check(0, row))
        self.assert_last([0, 0], facts(1), actor(1, 1), check(0, []))

    def test_the_belief_not_the_world_that_is(self):
        calls = [facts(2), world(1), actor(0, 2)]
        self.assert_last([0, 0], *calls, check(0, [1]))
        self.assert_last([0, 1], *calls, check(0, [0]))
        self.assert_last([0, 0], *calls, tell(0, 0, 1), check(0, [0]))
        self.assert_last([0, 1], *calls, tell(0, 0, 1), check(0, [1]))

    def test_a_world_with_the_goal_reached(self):
        for reached in (4, 5, 6, 7):
            for row in ([1, 2, 3, reached], [reached, 1, 2, 3], [1, 2, reached, 3]):
                self.assert_last([0, 0], *CHAIN, check(0, row))
        self.assert_last([0, 0], *CHAIN, check(0, [1, 2, 3] * 99 + [1, 2, 7]))
        self.assert_last([0, 0], facts(1), actor(0, 0, 1), check(0, [0]))
        self.assert_last([0, 0], facts(2), world(3), actor(3, 0, 1), check(0, [3, 2]))

    def test_both_halves_of_the_goal(self):
        calls = [facts(2), world(3), actor(3, 2, 1)]
        self.assert_last([0, 1], *calls, check(0, [3]))
        self.assert_last([0, 1], *calls, check(0, [0, 1, 3]))
        self.assert_last([0, 0], *calls, check(0, [2, 3]))

    def test_a_deed_leads_out(self):
        for row in ([1], [1, 2], [1, 3], [0, 1, 2], [0, 1], [1, 3, 0]):
            self.assert_last([0, 0], *CHAIN, check(0, row))

    def test_a_deed_leads_out_of_a_world_that_is_not_come_to(self):
        calls = [facts(3), actor(0, 4), deed(0, 1, 0, 2, 1)]
        self.assert_last([0, 1], *calls, check(0, [0]))
        self.assert_last([0, 0], *calls, check(0, [0, 1]))
        self.assert_last([0, 1], *calls, check(0, [0, 1, 2]))

    def test_the_last_of_24_deeds_leads_out(self):
        calls = [facts(2), actor(0, 2)] + [deed(0, 0, 0, 0, 1)] * 23
        self.assert_last([0, 1], *calls, check(0, [0]))
        self.assert_last([0, 0], *calls, deed(0, 0, 0, 1), check(0, [0]))
        self.assert_last([0, 1], *calls, deed(0, 0, 0, 1), check(0, [0, 1]))

    def test_a_deed_that_must_not_be_done_does_not_lead_out(self):
        self.assert_last([0, 1], facts(2), world(1), actor(3, 2), deed(0, 0, 1, 2), check(0, [1]))
        self.assert_last([0, 1], facts(2), world(1), actor(3, 2), deed(0, 2, 0, 0, 1), check(0, [1]))
        self.assert_last([0, 1], facts(2), world(1), actor(3, 2), deed(0), check(0, [1]))

    def test_deeds_of_others_do_not_lead_out(self):
        calls = [facts(2), actor(0, 2), actor(0, 2), deed(1, 0, 0, 2), deed(0, 0, 0, 1)]
        self.assert_last([0, 1], *calls, check(0, [0, 1]))
        self.assert_last([0, 0], *calls, check(0, [0]))
        self.assert_last([0, 0], *calls, check(1, [0, 1]))
        self.assert_last([0, 0], *calls, check(1, [0]))

    def test_no_row_proves_it_where_there_is_a_plan(self):
        calls = [facts(2), actor(0, 3), deed(0, 0, 0, 1), deed(0, 1, 0, 2)]
        for subset in range(16):
            self.assert_last([0, 0], *calls, check(0, [w for w in range(4) if subset >> w & 1]))
        self.assert_last([0, 0], actor(), check(0, [0]))
        self.assert_last([0, 0], actor(), check(0, []))
        self.assert_last([0, 0], facts(6), actor(63, 63), *counter(0), check(0, list(range(63))))
        self.assert_last([0, 0], facts(6), actor(63, 63), *counter(0), check(0, list(range(64))))

    def test_all_rows_over_two_facts(self):
        # From 0 to 1 and from 3 to 2; 2 has the goal reached.
        calls = [facts(2), actor(0, 2, 1), deed(0, 0, 3, 1), deed(0, 3, 0, 0, 1)]
        for subset in range(16):
            row = [w for w in range(4) if subset >> w & 1]
            self.assert_last([0, 1 if row == [0, 1] else 0], *calls, check(0, row))

    def test_what_proof_answers_is_taken(self):
        for calls in (CHAIN, [facts(6), world(1), actor(63, 0, 63)] + counter(0), [facts(1), actor(1, 1)],
                      [facts(6), actor(0, 32)] + [deed(0, k % 32, 0, 1 << k % 5) for k in range(24)]):
            worlds = last(*calls, proof(0))[1:]
            self.assert_last([0, 1], *calls, check(0, worlds))
            self.assert_last([0, 1], *calls, check(0, worlds[::-1] + worlds))
            for left_out in worlds:
                self.assert_last([0, 0], *calls, check(0, [w for w in worlds if w != left_out]))

    def test_goals_told_later_count(self):
        self.assert_last([0, 0], *CHAIN, goal(0, 2), check(0, [1, 2, 3]))
        self.assert_last([0, 0], *CHAIN, goal(0), check(0, [1, 2, 3]))
        self.assert_last([0, 1], *CHAIN, goal(0, 5, 2), check(0, [1, 2, 3]))

    def test_changes_nothing(self):
        for row in ([1, 2, 3], [1], [], [1, 7], [3, 2, 1] * 100):
            self.assert_same_behind(CHAIN, check(0, row))

    def test_the_next_call_begins_behind_the_row(self):
        for row in ([], [1], [7, 6], [0, 6, 0, 1], [5] * 300):
            got = ask(*CHAIN, check(0, row), plan(0), check(0, row), state())
            self.assertEqual(got[-3], [0, 0])
            self.assertEqual(got[-1], [0, 3, 1, 1, 2])

    def test_ranges(self):
        self.assert_actor_range(check(0, []))
        self.assert_actor_range(check(0, [1, 1, 0]))
        for place in range(3, 6):
            self.assert_range(CHAIN, check(0, [1, 2, 3]), place, 7)
            self.assert_range([facts(6), actor()], check(0, [1, 2, 3]), place, 63)
            self.assert_range([actor()], check(0, [0, 0, 0]), place, 0)
        for place in (3, 150, 302):
            self.assert_range(CHAIN, check(0, [1, 2, 3] * 100), place, 7)

    def test_the_range_goes_before_what_the_row_proves(self):
        for row in ([8], [-1], [BIG], [2, 8], [7, 8], [1, 8], [1, 2, 3, -1], [1, 2, 3, 8], [-BIG] * 300):
            self.assert_refused(-1, CHAIN, check(0, row))
            self.assert_refused(-1, CHAIN, check(1, row))
        for number in (-BIG, -1, 1, 4, BIG):
            self.assert_refused(-1, CHAIN, check(number, [1, 2, 3]))
            self.assert_refused(-1, CHAIN, check(number, []))
