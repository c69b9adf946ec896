"""Call 6, plan."""

from tests.helper import LineTest, actor, counted, counter, deed, facts, goal, plan, tell, world


class Plan(LineTest):

    def test_no_deed_where_the_goal_is_reached(self):
        deeds = [deed(0), deed(0, 0, 0, 1), deed(0, 0, 0, 0, 1)]
        self.assert_last([0, 1], facts(1), actor(), *deeds, plan(0))
        self.assert_last([0, 1], facts(1), actor(1, 0, 1), *deeds, plan(0))
        self.assert_last([0, 1], facts(1), world(1), actor(1, 1), *deeds, plan(0))
        self.assert_last([0, 1], facts(6), world(63), actor(63, 63), plan(0))

    def test_no_plan(self):
        self.assert_last([0, 0], facts(1), actor(1, 1), plan(0))
        self.assert_last([0, 0], facts(2), actor(3, 2), deed(0, 1, 0, 2), plan(0))
        self.assert_last([0, 0], facts(2), actor(3, 3), deed(0, 0, 0, 1, 2), deed(0, 0, 0, 2, 1), plan(0))
        self.assert_last([0, 0], facts(2), world(1), actor(3, 2), deed(0, 0, 1, 2), plan(0))

    def test_no_plan_through_circles(self):
        turns = [deed(0, 0, 1, 1), deed(0, 1, 0, 0, 1), deed(0)]
        self.assert_last([0, 0], facts(2), actor(0, 2), *turns, plan(0))

    def test_the_goal_not_to_be(self):
        self.assert_last([0, 1, 0], facts(2), world(3), actor(3, 2, 1), deed(0, 0, 0, 0, 1), plan(0))
        self.assert_last([0, 0], facts(2), world(3), actor(3, 2, 1), deed(0, 0, 0, 0, 3), plan(0))

    def test_several_deeds(self):
        deeds = [deed(0, 2, 0, 4), deed(0, 1, 0, 2), deed(0, 0, 0, 1)]
        self.assert_last([0, 1, 2, 1, 0], facts(3), actor(0, 4), *deeds, plan(0))
        self.assert_last([0, 1, 1, 0], facts(3), actor(0, 4), *deeds, tell(0, 0, 1), plan(0))

    def test_the_same_deed_twice(self):
        deeds = [deed(0, 1, 2, 2, 1), deed(0, 0, 1, 1)]
        self.assert_last([0, 1, 1, 0, 1], facts(2), actor(0, 3), *deeds, plan(0))

    def test_the_fewest_deeds_go_before_the_least_numbers(self):
        deeds = [deed(0, 0, 0, 1), deed(0, 1, 0, 2), deed(0, 0, 0, 3)]
        self.assert_last([0, 1, 2], facts(2), actor(0, 3), *deeds, plan(0))

    def test_the_least_first_deed(self):
        self.assert_last([0, 1, 0], facts(1), actor(0, 1), deed(0, 0, 0, 1), deed(0, 0, 1, 1), plan(0))
        self.assert_last([0, 1, 0], facts(2), actor(0, 1), deed(0, 0, 0, 1), deed(0, 0, 0, 3), plan(0))
        self.assert_last([0, 1, 0], facts(2), actor(0, 1), deed(0, 0, 0, 3), deed(0, 0, 0, 1), plan(0))

    def test_the_least_first_deed_though_the_second_is_greater(self):
        # 0 then 3, or 1 then 2: the first deed decides.
        deeds = [deed(0, 0, 6, 1), deed(0, 0, 5, 2), deed(0, 2, 0, 4), deed(0, 1, 0, 4)]
        self.assert_last([0, 1, 0, 3], facts(3), actor(0, 4), *deeds, plan(0))

    def test_the_least_second_and_third_deed(self):
        any_order = [deed(0, 0, 0, 1 << k) for k in (2, 0, 1)]
        self.assert_last([0, 1, 0, 1, 2], facts(3), actor(0, 7), *any_order, plan(0))
        # From deed 0's world both 2 and 3 go on; behind them 4 and 1 end it.
        deeds = [deed(0, 0, 1, 1), deed(0, 4, 0, 8), deed(0, 1, 6, 2), deed(0, 1, 6, 4), deed(0, 2, 0, 8)]
        self.assert_last([0, 1, 0, 2, 4], facts(4), actor(0, 8), *deeds, plan(0))

    def test_deeds_of_others_are_not_taken(self):
        self.assert_last([0, 0], facts(1), actor(0, 1), actor(0, 1), deed(1, 0, 0, 1), plan(0))
        self.assert_last([0, 1, 0], facts(1), actor(0, 1), actor(0, 1), deed(1, 0, 0, 1), plan(1))
        self.assert_last([0, 1, 1], facts(1), actor(0, 1), actor(0, 1), deed(1, 0, 0, 1), deed(0, 0, 0, 1), plan(0))
        half = [deed(0, 0, 0, 1), deed(1, 1, 0, 2)]
        self.assert_last([0, 0], facts(2), actor(0, 2), actor(0, 2), *half, plan(0))
        self.assert_last([0, 0], facts(2), actor(0, 2), actor(0, 2), *half, plan(1))

    def test_each_of_four_actors_has_its_plan(self):
        calls = [facts(4)] + [actor(0, 8)] * 4
        for k in range(24):
            calls.append(deed(3 - k % 4, 0, 0, 8 if k >= 20 else 1))
        self.assert_answers(*[(call, answer) for call, answer in zip(
            calls + [plan(0), plan(1), plan(2), plan(3)],
            [[0]] + [[0, k] for k in range(4)] + [[0, k] for k in range(24)] + [[0, 1, 23 - k] for k in range(4)],
        )])

    def test_from_the_belief_not_from_the_world_that_is(self):
        calls = [facts(2), world(3), actor(1, 2), deed(0, 1, 0, 2)]
        self.assert_last([0, 1, 0], *calls, plan(0))
        self.assert_last([0, 1], *calls, tell(0, 1, 1), plan(0))

    def test_planning_changes_nothing(self):
        calls = [facts(2), actor(0, 3), deed(0, 0, 0, 1), deed(0, 0, 0, 2)]
        self.assert_answers(*zip(calls + [plan(0), plan(0)], [[0], [0, 0], [0, 0], [0, 1], [0, 1, 0, 1], [0, 1, 0, 1]]))

    def test_deeds_told_later_count(self):
        self.assert_answers(
            (facts(1), [0]), (actor(0, 1), [0, 0]), (plan(0), [0, 0]), (deed(0, 0, 0, 1), [0, 0]), (plan(0), [0, 1, 0]),
        )

    def test_63_deeds(self):
        calls = [facts(6), actor(63, 63)] + counter(0)
        self.assert_last([0, 1] + counted(), *calls, plan(0))
        self.assert_last([0, 1] + counted()[1:], *calls, world(1), plan(0))
        self.assert_last([0, 0], *calls, goal(0, 0, 63), world(1), plan(0))

    def test_all_worlds_and_24_deeds(self):
        calls = [facts(6), actor(63, 63)]
        calls += [deed(0, 0, 0, 0, 1 << k % 6) for k in range(18)]
        calls += [deed(0, 0, 0, 1 << k) for k in range(6)]
        self.assert_last([0, 1, 18, 19, 20, 21, 22, 23], *calls, plan(0))
        self.assert_last([0, 1, 0, 1, 2, 3, 4, 5], *calls, goal(0, 0, 63), world(63), plan(0))
        self.assert_last([0, 1, 1, 18, 20, 22], *calls, goal(0, 21, 42), world(2), plan(0))

    def test_range(self):
        before = [facts(2), world(1), actor(1, 2), actor(3, 0, 1), deed(0, 1, 0, 2)]
        self.assert_range(before, plan(0), 1, 1)
        self.assert_range([facts(1)], plan(0), 1, -1)
        self.assert_range([actor()] * 4, plan(0), 1, 3)
