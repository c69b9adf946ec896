"""Call 11, turn."""

from tests.helper import (
    BIG, LineTest, actor, ask, belief, counter, deed, deeds, facts, goal, last, plan, state, tell, turn, world,
)


def beliefs(calls, how_many):
    """What each of the actors believes behind the calls."""
    return [got[4] for got in ask(*calls, *[belief(number) for number in range(how_many)])[len(calls):]]


def is_so(calls):
    """The world that is behind the calls."""
    return last(*calls, state())[2]


class Turn(LineTest):

    def assert_turn(self, due, before, number, world_due, beliefs_due):
        """What the turn answers, what world is behind it and what each actor believes then; all else stays."""
        calls = before + [turn(number)]
        self.assert_last(due, *calls)
        self.assertEqual(is_so(calls), world_due)
        self.assertEqual(beliefs(calls, len(beliefs_due)), beliefs_due)
        self.assert_last(last(*before, deeds()), *calls, deeds())
        for other in range(len(beliefs_due)):
            self.assertEqual(last(*calls, belief(other))[:4], last(*before, belief(other))[:4])

    def test_the_goal_is_reached_in_the_belief(self):
        for before in ([actor()], [facts(2), world(2), actor(2, 2), deed(0, 0, 0, 1)], [facts(6), actor(63, 0, 63)] + counter(0)):
            self.assertEqual(self.assert_same_behind(before, turn(0)), [0, 0])

    def test_the_goal_is_reached_in_a_false_belief(self):
        before = [facts(2), actor(0, 2), deed(0, 0, 0, 2), tell(0, 1, 1)]
        self.assertEqual(self.assert_same_behind(before, turn(0)), [0, 0])

    def test_no_plan(self):
        for before in ([facts(1), actor(0, 1)], [facts(2), world(1), actor(3, 2), deed(0, 0, 1, 2), deed(0, 2)],
                       [facts(1), actor(0, 1), actor(0, 1), deed(1, 0, 0, 1)]):
            self.assertEqual(self.assert_same_behind(before, turn(0)), [0, 1])

    def test_no_plan_though_the_world_that_is_has_one(self):
        before = [facts(2), world(1), actor(0, 2), deed(0, 1, 0, 2)]
        self.assertEqual(self.assert_same_behind(before, turn(0)), [0, 1])

    def test_no_plan_though_the_goal_is_reached_in_the_world_that_is(self):
        before = [facts(2), world(2), actor(0, 2)]
        self.assertEqual(self.assert_same_behind(before, turn(0)), [0, 1])

    def test_a_deed_is_done_in_the_world_and_in_the_belief(self):
        before = [facts(4), world(8), actor(0, 1), tell(0, 1, 1), tell(0, 2, 1), deed(0, 0, 0, 1, 2)]
        self.assert_turn([0, 2, 0], before, 0, 9, [5])
        before = [facts(4), world(2), actor(0, 1), tell(0, 2, 1), deed(0, 0, 0, 1, 6)]
        self.assert_turn([0, 2, 0], before, 0, 1, [1])
        before = [facts(6), world(63), actor(63, 0, 63), deed(0, 63, 0, 0, 63)]
        self.assert_turn([0, 2, 0], before, 0, 0, [0])

    def test_the_world_and_the_belief_may_differ_behind_it(self):
        before = [facts(3), world(4), actor(0, 1), tell(0, 1, 1), deed(0, 0, 0, 1)]
        self.assert_turn([0, 2, 0], before, 0, 5, [3])

    def test_the_plans_first_deed_alone(self):
        before = [facts(3), actor(7, 4), deed(0, 2, 0, 4), deed(0, 1, 0, 2), deed(0, 0, 0, 1)]
        self.assert_turn([0, 2, 2], before, 0, 1, [1])
        self.assert_turn([0, 2, 1], before + [turn(0)], 0, 3, [3])
        self.assert_turn([0, 2, 0], before + [turn(0)] * 2, 0, 7, [7])
        self.assert_turn([0, 0], before + [turn(0)] * 3, 0, 7, [7])

    def test_the_least_first_deed_of_shortest_plans(self):
        before = [facts(2), actor(3, 2), deed(0, 0, 0, 1), deed(0, 0, 0, 3), deed(0, 0, 0, 2)]
        self.assert_turn([0, 2, 1], before, 0, 3, [3])

    def test_behind_a_deed_all_actors_see(self):
        before = [facts(3), world(4), actor(1, 2), actor(0), actor(1), actor(6), deed(0, 0, 0, 3, 4)]
        self.assertEqual(beliefs(before, 4), [0, 0, 0, 4])
        self.assert_turn([0, 2, 0], before, 0, 3, [3, 0, 1, 2])

    def test_of_what_others_do_not_see_they_believe_what_they_did(self):
        before = [facts(3), actor(0, 2), actor(1), tell(1, 2, 1), actor(2), tell(2, 0, 1), deed(0, 0, 0, 3, 4)]
        self.assert_turn([0, 2, 0], before, 0, 3, [3, 5, 3])

    def test_the_actor_sees_too_behind_its_deed(self):
        # It sees fact 0 alone, and its belief of fact 1 is false: the deed brings what it believes there.
        before = [facts(3), world(2), actor(1, 5), deed(0, 0, 0, 5)]
        self.assert_turn([0, 2, 0], before, 0, 7, [5])

    def test_a_deed_that_changes_nothing_in_the_world_that_is(self):
        before = [facts(1), world(1), actor(0, 1), deed(0, 0, 0, 1)]
        self.assert_turn([0, 2, 0], before, 0, 1, [1])

    def test_a_deed_that_cannot_be_done(self):
        before = [facts(3), world(4), actor(0, 2), tell(0, 0, 1), deed(0, 1, 0, 2)]
        self.assert_turn([0, 3, 0], before, 0, 4, [0])
        self.assert_turn([0, 1], before + [turn(0)], 0, 4, [0])

    def test_what_must_not_be_so_is_learnt(self):
        before = [facts(3), world(5), actor(0, 2), deed(0, 0, 1, 2)]
        self.assert_turn([0, 3, 0], before, 0, 5, [1])
        self.assert_turn([0, 1], before + [turn(0)], 0, 5, [1])

    def test_of_each_asked_fact_it_learns_both_ways(self):
        # Asked: 0 and 1 must be so, 2 and 3 must not; of these 1 and 3 are so. 4 and 5 are not asked.
        before = [facts(6), world(2 + 8 + 16), actor(0, 32)] + [tell(0, fact, 1) for fact in (0, 1)]
        before += [deed(0, 3, 12, 32)]
        self.assertEqual(beliefs(before, 1), [3])
        self.assert_turn([0, 3, 0], before, 0, 26, [2 + 8])

    def test_of_no_other_fact_it_learns(self):
        # What the deed would change is not learnt, nor what it neither asks nor changes.
        before = [facts(4), world(8), actor(0, 2), tell(0, 0, 1), tell(0, 2, 1), deed(0, 1, 0, 2, 8)]
        self.assert_turn([0, 3, 0], before, 0, 8, [4])
        before = [facts(4), world(10), actor(0, 4), tell(0, 0, 1), deed(0, 1, 0, 4)]
        self.assert_turn([0, 3, 0], before, 0, 10, [0])

    def test_the_others_learn_nothing_from_it(self):
        before = [facts(3), world(4), actor(0, 2), tell(0, 0, 1), actor(0), tell(1, 0, 1), actor(1), actor(7)]
        before += [deed(0, 1, 0, 2)]
        self.assert_turn([0, 3, 0], before, 0, 4, [0, 1, 0, 4])

    def test_the_first_deed_is_tried_though_a_later_one_would_fail(self):
        before = [facts(3), actor(0, 4), tell(0, 1, 1), deed(0, 0, 0, 1), deed(0, 3, 0, 4)]
        self.assert_turn([0, 2, 0], before, 0, 1, [3])
        self.assert_turn([0, 3, 1], before + [turn(0)], 0, 1, [1])
        self.assert_turn([0, 1], before + [turn(0)] * 2, 0, 1, [1])

    def test_the_first_of_several_deeds_cannot_be_done(self):
        before = [facts(4), world(8), actor(0, 4), tell(0, 0, 1), deed(0, 2, 0, 4), deed(0, 1, 0, 2)]
        self.assert_last([0, 1, 1, 0], *before, plan(0))
        self.assert_turn([0, 3, 1], before, 0, 8, [0])

    def test_learns_and_plans_anew(self):
        # The short way is barred; behind the try the longer one is taken.
        before = [facts(4), world(1), actor(0, 8), deed(0, 0, 1, 8), deed(0, 1, 0, 2), deed(0, 2, 0, 8)]
        self.assert_turn([0, 3, 0], before, 0, 1, [1])
        self.assert_turn([0, 2, 1], before + [turn(0)], 0, 3, [3])
        self.assert_turn([0, 2, 2], before + [turn(0)] * 2, 0, 11, [11])
        self.assert_turn([0, 0], before + [turn(0)] * 3, 0, 11, [11])

    def test_another_undoes_it(self):
        before = [facts(1), actor(1, 1), actor(1, 0, 1), deed(0, 0, 0, 1), deed(1, 0, 0, 0, 1)]
        self.assert_answers(*zip(
            before + [turn(0), turn(0), turn(1), turn(1), turn(0), state()],
            [[0], [0, 0], [0, 1], [0, 0], [0, 1], [0, 2, 0], [0, 0], [0, 2, 1], [0, 0], [0, 2, 0], [0, 1, 1, 2, 2]],
        ))

    def test_what_is_not_seen_is_not_missed(self):
        before = [facts(1), actor(0, 1), actor(1, 0, 1), deed(0, 0, 0, 1), deed(1, 0, 0, 0, 1), turn(0), turn(1)]
        self.assert_turn([0, 0], before, 0, 0, [1, 0])

    def test_a_goal_told_later(self):
        before = [facts(2), actor(3, 1), deed(0, 0, 0, 1), deed(0, 0, 0, 2)]
        self.assert_turn([0, 2, 1], before + [goal(0, 2)], 0, 2, [2])

    def test_63_turns(self):
        calls = [facts(6), actor(63, 63)] + counter(0)
        for k in (1, 2, 40, 62):
            self.assertEqual(is_so(calls + [turn(0)] * k), k)
        self.assertEqual(last(*calls, *[turn(0)] * 63), [0, 2, 0])
        self.assertEqual(last(*calls, *[turn(0)] * 64), [0, 0])
        self.assertEqual(is_so(calls + [turn(0)] * 64), 63)

    def test_the_24th_deed(self):
        before = [facts(1), actor(0, 1)] + [deed(0)] * 23 + [deed(0, 0, 0, 1)]
        self.assert_turn([0, 2, 23], before, 0, 1, [1])

    def test_the_fourth_actor(self):
        before = [facts(1)] + [actor(0, 1)] * 4 + [deed(3, 0, 0, 1)]
        self.assert_turn([0, 2, 0], before, 3, 1, [0, 0, 0, 1])

    def test_a_plan_behind_a_turn(self):
        calls = [facts(3), actor(7, 4), deed(0, 2, 0, 4), deed(0, 1, 0, 2), deed(0, 0, 0, 1)]
        self.assert_last([0, 1, 1, 0], *calls, turn(0), plan(0))

    def test_range(self):
        self.assert_actor_range(turn(0))
        before = [facts(2), actor(0, 2), actor(3, 1), deed(0, 0, 0, 2), deed(1, 0, 0, 1)]
        for number in (-BIG, -2, -1, 2, 3, 4, BIG):
            self.assert_refused(-1, before, turn(number))
