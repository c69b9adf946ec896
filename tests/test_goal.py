"""Call 5, goal."""

from tests.helper import BIG, LineTest, actor, deed, facts, far, goal, plan, tell, world

BEFORE = [facts(2), world(1), actor(1, 2), actor(3, 0, 1), deed(0, 1, 0, 2), deed(1, 0, 0, 0, 1), tell(0, 1, 1)]


class Goal(LineTest):

    def test_the_new_goal_counts(self):
        calls = [facts(2), actor(0, 1), deed(0, 0, 0, 1), deed(0, 0, 0, 2)]
        self.assert_last([0, 1, 0], *calls, plan(0))
        self.assert_last([0], *calls, goal(0, 2))
        self.assert_last([0, 1, 1], *calls, goal(0, 2), plan(0))
        self.assert_last([0, 1, 0, 1], *calls, goal(0, 3), plan(0))
        self.assert_last([0, 1, 1], *calls, goal(0, 3), goal(0, 2, 1), plan(0))
        self.assert_last([0, 1], *calls, goal(0, 0, 3), plan(0))
        self.assert_last([0, 0], *calls, goal(0, 0, 1), far(0, 1))
        self.assert_last([0, 1], *calls, goal(0), plan(0))

    def test_the_old_goal_is_gone_whole(self):
        calls = [facts(2), world(2), actor(3, 1, 2), goal(0, 2)]
        self.assert_last([0, 1], *calls, plan(0))
        self.assert_last([0, 1], *calls, goal(0, 0, 1), plan(0))

    def test_one_actor_has_it(self):
        calls = [facts(1), actor(0, 1), actor(0, 1), goal(1, 0, 1)]
        self.assert_last([0, 0], *calls, plan(0))
        self.assert_last([0, 1], *calls, plan(1))

    def test_the_belief_stays(self):
        calls = [facts(2), world(1), actor(1), tell(0, 1, 1), goal(0, 3)]
        self.assert_last([0, 1], *calls, plan(0))

    def test_ranges(self):
        self.assert_range(BEFORE, goal(0), 1, 1)
        for place in (2, 3):
            self.assert_range(BEFORE, goal(1), place, 3)
            self.assert_range([facts(6), actor()], goal(0), place, 63)
            self.assert_range([actor()], goal(0), place, 0)
        self.assert_range([facts(2)], goal(0), 1, -1)

    def test_told_both_ways(self):
        for number in (0, 1):
            for both in (goal(number, 1, 1), goal(number, 3, 1), goal(number, 2, 3), goal(number, 3, 3)):
                self.assert_refused(-2, BEFORE, both)

    def test_range_goes_before_both_ways(self):
        for out in (goal(2, 1, 1), goal(-1, 1, 1), goal(0, 4, 4), goal(0, 5, 1), goal(0, 1, 5), goal(0, -1, 1),
                    goal(0, 1, -1), goal(BIG, 3, 3), goal(0, BIG, BIG), goal(0, -BIG, -BIG)):
            self.assert_refused(-1, BEFORE, out)
