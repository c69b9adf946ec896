"""Call 8, proof."""

from tests.helper import (
    BIG, LineTest, actor, check, counter, deed, facts, far, goal, last, plan, proof, tell, turn, world,
)


class Proof(LineTest):

    def test_the_belief_alone(self):
        self.assert_last([0, 0], facts(1), actor(1, 1), proof(0))
        self.assert_last([0, 5], facts(3), world(5), actor(7, 2), proof(0))
        self.assert_last([0, 63], facts(6), world(63), actor(63, 0, 32), proof(0))
        self.assert_last([0, 0], facts(6), world(63), actor(0, 63), proof(0))
        self.assert_last([0, 1], facts(2), world(1), actor(3, 2), deed(0), deed(0, 0, 1, 2), proof(0))

    def test_ascending_whatever_the_order_of_coming(self):
        steps = [deed(0, 4, 3, 2, 4), deed(0, 2, 5, 1, 2), deed(0, 1, 6, 6, 1)]
        self.assert_last([0, 1, 2, 4, 6], facts(4), world(4), actor(15, 8), *steps, proof(0))
        wide = [deed(0, 0, 7, 4), deed(0, 0, 7, 7), deed(0, 0, 7, 1), deed(0, 0, 7, 6), deed(0, 0, 7, 2)]
        self.assert_last([0, 0, 1, 2, 4, 6, 7], facts(4), actor(15, 8), *wide, proof(0))

    def test_each_world_once(self):
        circle = [deed(0, 0, 1, 1), deed(0, 1, 0, 0, 1), deed(0), deed(0, 0, 0, 1)]
        self.assert_last([0, 0, 1], facts(2), actor(0, 2), *circle, proof(0))

    def test_deeds_that_can_be_done_in_their_turns_alone(self):
        chain = [deed(0, 2, 0, 4), deed(0, 1, 0, 2), deed(0, 8, 0, 16)]
        self.assert_last([0, 0], facts(6), actor(0, 32), *chain, proof(0))
        self.assert_last([0, 1, 3, 7], facts(6), actor(0, 32), *chain, tell(0, 0, 1), proof(0))
        self.assert_last([0, 8, 24], facts(6), actor(0, 32), *chain, tell(0, 3, 1), proof(0))
        self.assert_last([0, 1], facts(2), world(1), actor(3, 0, 1), deed(0, 0, 1, 2), proof(0))

    def test_no_deed_of_another_actor(self):
        calls = [facts(3), actor(0, 4), actor(0, 4), deed(1, 0, 0, 4), deed(0, 0, 0, 1), deed(1, 1, 0, 2)]
        self.assert_last([0, 0, 1], *calls, proof(0))
        self.assert_last([-4], *calls, proof(1))
        self.assert_last([0, 0], facts(1), actor(0, 1), actor(0, 1), deed(0, 0, 0, 1), proof(1))

    def test_from_the_belief_not_from_the_world_that_is(self):
        calls = [facts(3), world(3), actor(1, 4), deed(0, 2, 0, 0, 1)]
        self.assert_last([0, 1], *calls, proof(0))
        self.assert_last([0, 2, 3], *calls, tell(0, 1, 1), proof(0))

    def test_63_worlds(self):
        calls = [facts(6), world(1), actor(63, 0, 63)] + counter(0)
        self.assert_last([0] + list(range(1, 64)), *calls, proof(0))
        self.assert_last([0] + list(range(40, 64)), *calls, world(40), proof(0))
        self.assert_last([0, 63], *calls, world(63), proof(0))
        changes = [deed(0, 0, 0, 1 << k) for k in range(5)] + [deed(0, 0, 0, 0, 1 << k) for k in range(6)]
        short = [facts(6), world(63), actor(63, 63)] + changes
        self.assert_last([0] + list(range(32)), *short, world(17), proof(0))
        every = [deed(0, 0, 0, 1 << k, 1 << (k + 1) % 6) for k in range(6)] + [deed(0, 0, 0, 0, 1 << k) for k in range(6)]
        self.assert_last([0] + list(range(63)), *short[:3], *every, world(21), proof(0))

    def test_24_deeds(self):
        calls = [facts(6), actor(0, 32)] + [deed(0, 0, 0, 0, 1)] * 23 + [deed(0, 0, 0, 9)]
        self.assert_last([0, 0, 8, 9], *calls, proof(0))

    def test_not_where_there_is_a_plan(self):
        self.assert_refused(-4, [facts(2), actor(0, 2), deed(0, 0, 0, 2)], proof(0))
        self.assert_refused(-4, [facts(3), actor(0, 4), deed(0, 2, 0, 4), deed(0, 1, 0, 2), deed(0, 0, 0, 1)], proof(0))
        self.assert_refused(-4, [facts(6), actor(63, 63)] + counter(0), proof(0))
        self.assert_refused(-4, [facts(2), actor(0), actor(0, 1), deed(1, 0, 0, 1)], proof(1))

    def test_not_where_there_is_a_plan_of_no_deed(self):
        self.assert_refused(-4, [actor()], proof(0))
        self.assert_refused(-4, [facts(2), actor(0, 0, 3)], proof(0))
        self.assert_refused(-4, [facts(6), world(63), actor(63, 63), deed(0, 0, 0, 0, 1)], proof(0))
        self.assert_refused(-4, [facts(1), actor(0, 1), tell(0, 0, 1)], proof(0))

    def test_goals_and_deeds_told_later_count(self):
        calls = [facts(2), actor(0, 2), deed(0, 0, 0, 1)]
        self.assert_answers(*zip(
            calls + [proof(0), goal(0, 1), proof(0), goal(0, 3), proof(0), deed(0, 0, 0, 2), proof(0), plan(0)],
            [[0], [0, 0], [0, 0], [0, 0, 1], [0], [-4], [0], [0, 0, 1], [0, 1], [-4], [0, 1, 0, 1]],
        ))

    def test_behind_a_turn(self):
        calls = [facts(2), actor(0, 2), deed(0, 1, 0, 2), tell(0, 0, 1)]
        self.assert_last([-4], *calls, proof(0))
        self.assert_last([0, 0], *calls, turn(0), proof(0))

    def test_changes_nothing(self):
        before = [facts(3), world(3), actor(1, 4), actor(6, 1), deed(0, 1, 0, 2), deed(1, 0, 0, 4), tell(0, 1, 1)]
        self.assertEqual(self.assert_same_behind(before, proof(0)), [0, 3])
        self.assertEqual(self.assert_same_behind(before, proof(1)), [0, 2, 6])

    def test_a_goal_is_far_from_no_world_of_it(self):
        calls = [facts(4), world(6), actor(15, 9, 2), deed(0, 4, 0, 8, 1), deed(0, 8, 0, 1, 12), deed(0, 2, 0, 4)]
        worlds = last(*calls, proof(0))[1:]
        self.assertGreater(len(worlds), 2)
        for one in worlds:
            self.assert_last([0, 0], *calls, far(0, one))
        self.assert_last([0, 1], *calls, check(0, worlds))

    def test_range(self):
        self.assert_actor_range(proof(0))
        reached = [facts(1), actor(), actor()]
        for number in (-BIG, -1, 2, BIG):
            self.assert_refused(-1, reached, proof(number))
