"""Call 13, belief."""

from tests.helper import (
    BIG, LineTest, actor, ask, belief, check, deed, facts, far, follow, goal, last, plan, proof, rounds, tell, turn, world,
)


class Belief(LineTest):

    def test_what_it_sees_and_wants_and_believes(self):
        self.assert_last([0, 5, 2, 8, 4, 0], facts(4), world(4), actor(5, 2, 8), belief(0))
        self.assert_last([0, 0, 0, 0, 0, 1], actor(), belief(0))
        self.assert_last([0, 63, 63, 0, 63, 1], facts(6), world(63), actor(63, 63), belief(0))
        self.assert_last([0, 63, 0, 63, 63, 0], facts(6), world(63), actor(63, 0, 63), belief(0))
        self.assert_last([0, 0, 21, 42, 0, 0], facts(6), world(63), actor(0, 21, 42), belief(0))

    def test_reached_in_the_world_that_is_not_in_the_belief(self):
        self.assert_last([0, 0, 1, 0, 0, 1], facts(2), world(1), actor(0, 1), belief(0))
        self.assert_last([0, 0, 1, 0, 1, 0], facts(2), actor(0, 1), tell(0, 0, 1), belief(0))
        self.assert_last([0, 0, 0, 1, 0, 0], facts(2), world(1), actor(0, 0, 1), belief(0))
        self.assert_last([0, 0, 0, 1, 1, 1], facts(2), actor(0, 0, 1), tell(0, 0, 1), belief(0))

    def test_reached_for_all_goals_over_two_facts(self):
        for is_so in range(4):
            for to_be in range(4):
                for not_to_be in range(4):
                    if to_be & not_to_be == 0:
                        reached = 1 if is_so & to_be == to_be and is_so & not_to_be == 0 else 0
                        calls = [facts(2), world(is_so), actor(0, to_be, not_to_be), belief(0)]
                        self.assert_last([0, 0, to_be, not_to_be, 0, reached], *calls)

    def test_of_each_of_four(self):
        calls = [facts(4), world(15)] + [actor(k, 1 << k, 15 - (1 << k)) for k in range(4)]
        for k in range(4):
            self.assert_last([0, k, 1 << k, 15 - (1 << k), k, 0], *calls, belief(k))

    def test_behind_facts(self):
        self.assert_last([0, 0, 0, 0, 0, 1], facts(3), world(7), facts(3), actor(0, 0, 0), belief(0))
        self.assert_last([0, 3, 0, 3, 0, 1], facts(3), world(7), facts(2), actor(3, 0, 3), belief(0))

    def test_behind_deed(self):
        self.assert_last([0, 1, 2, 0, 0, 0], facts(2), actor(1, 2), deed(0, 0, 0, 3), belief(0))

    def test_behind_another_actor(self):
        self.assert_last([0, 1, 2, 0, 3, 0], facts(2), world(1), actor(1, 2), tell(0, 1, 1), actor(3, 1), belief(0))

    def test_behind_world(self):
        before = [facts(3), actor(5, 2, 1), tell(0, 1, 1)]
        for is_so in range(8):
            reached = 1 if is_so in (2, 6) else 0
            self.assert_last([0, 5, 2, 1, (is_so & 5) | 2, reached], *before, world(is_so), belief(0))

    def test_behind_tell(self):
        before = [facts(6), world(33), actor(1, 32)]
        for fact in range(1, 6):
            self.assert_last([0, 1, 32, 0, 1 | 1 << fact, 1], *before, tell(0, fact, 1), belief(0))
            self.assert_last([0, 1, 32, 0, 1, 1], *before, tell(0, fact, 1), tell(0, fact, 0), belief(0))
        self.assert_last([0, 1, 32, 0, 1, 1], *before, tell(0, 0, 0), belief(0))

    def test_behind_tell_another_believes_what_it_did(self):
        self.assert_last([0, 0, 0, 0, 0, 1], facts(1), actor(), actor(), tell(1, 0, 1), belief(0))
        self.assert_last([0, 0, 0, 0, 1, 1], facts(1), actor(), actor(), tell(1, 0, 1), belief(1))

    def test_behind_goal(self):
        before = [facts(3), world(3), actor(1, 4), tell(0, 2, 1)]
        self.assert_last([0, 1, 4, 0, 5, 0], *before, belief(0))
        self.assert_last([0, 1, 2, 4, 5, 1], *before, goal(0, 2, 4), belief(0))
        self.assert_last([0, 1, 0, 2, 5, 0], *before, goal(0, 0, 2), belief(0))
        self.assert_last([0, 1, 0, 0, 5, 1], *before, goal(0), belief(0))
        self.assert_last([0, 1, 4, 0, 5, 0], *before, goal(0, 4, 4), belief(0))

    def test_behind_calls_that_only_ask(self):
        before = [facts(3), world(1), actor(1, 4), actor(3, 2), deed(0, 1, 0, 2), deed(1, 0, 0, 2), tell(0, 1, 1)]
        for call in (plan(0), plan(1), far(0, 7), far(1, 0), proof(0), proof(1), check(0, [3]), check(1, [1]),
                     follow(0, [0]), follow(1, [1, 1]), belief(0), belief(1)):
            self.assert_same_behind(before, call)

    def test_behind_turn(self):
        done = [facts(3), world(4), actor(1, 2), actor(2), deed(0, 0, 0, 3), turn(0)]
        self.assertEqual(ask(*done, belief(0), belief(1))[-2:], [[0, 1, 2, 0, 3, 1], [0, 2, 0, 0, 2, 1]])
        stopped = [facts(3), world(4), actor(1, 2), actor(2), deed(0, 0, 4, 2), turn(0)]
        self.assertEqual(ask(*stopped, belief(0), belief(1))[-2:], [[0, 1, 2, 0, 4, 0], [0, 2, 0, 0, 0, 1]])

    def test_behind_rounds(self):
        calls = [facts(3), actor(1, 6), actor(4, 1), deed(0, 0, 2, 2), deed(0, 2, 0, 4), deed(1, 4, 0, 1), rounds(20)]
        self.assertEqual(ask(*calls, belief(0), belief(1))[-2:], [[0, 1, 6, 0, 7, 1], [0, 4, 1, 0, 5, 1]])

    def test_changes_nothing(self):
        before = [facts(2), world(1), actor(1, 2), actor(3, 1), tell(0, 1, 1)]
        self.assertEqual(self.assert_same_behind(before, belief(0)), [0, 1, 2, 0, 3, 0])
        self.assertEqual(last(*before, belief(0), belief(0)), [0, 1, 2, 0, 3, 0])

    def test_range(self):
        self.assert_actor_range(belief(0))
        for number in (-BIG, -1, 2, BIG):
            self.assert_refused(-1, [facts(2), actor(), actor(3, 1)], belief(number))
