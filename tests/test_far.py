"""Call 7, far."""

from tests.helper import BIG, LineTest, actor, counter, deed, facts, far, goal, plan, tell, world


class Far(LineTest):

    def test_reached_there(self):
        self.assert_last([0, 1], facts(2), actor(0, 2), far(0, 2))
        self.assert_last([0, 1], facts(2), actor(0, 2), far(0, 3))
        self.assert_last([0, 1], facts(2), actor(0, 0, 1), far(0, 0))
        self.assert_last([0, 1], facts(6), actor(0, 63), far(0, 63))
        self.assert_last([0, 1], actor(), far(0, 0))

    def test_no_plan_from_there(self):
        self.assert_last([0, 0], facts(2), actor(0, 2), far(0, 0))
        self.assert_last([0, 0], facts(2), actor(0, 2), far(0, 1))
        self.assert_last([0, 0], facts(2), actor(0, 2), deed(0, 1, 0, 2), far(0, 0))
        self.assert_last([0, 0], facts(2), actor(0, 0, 1), far(0, 3))

    def test_from_worlds_other_than_the_belief(self):
        calls = [facts(3), world(1), actor(3, 4), deed(0, 2, 0, 4), deed(0, 1, 0, 2)]
        for start, due in enumerate((0, 3, 2, 2, 1, 1, 1, 1)):
            self.assert_last([0, due], *calls, far(0, start))

    def test_all_worlds_of_the_counter(self):
        calls = [facts(6), actor(63, 63)] + counter(0) + [far(0, start) for start in range(64)]
        self.assert_answers(*zip(
            calls, [[0], [0, 0]] + [[0, k] for k in range(6)] + [[0, 64 - start] for start in range(64)],
        ))

    def test_the_shortest_counts(self):
        deeds = [deed(0, 0, 0, 1), deed(0, 1, 0, 2), deed(0, 0, 0, 3)]
        self.assert_last([0, 2], facts(2), actor(0, 3), *deeds, far(0, 0))

    def test_deeds_of_others_are_not_taken(self):
        calls = [facts(1), actor(0, 1), actor(0, 1), deed(1, 0, 0, 1)]
        self.assert_last([0, 0], *calls, far(0, 0))
        self.assert_last([0, 2], *calls, far(1, 0))

    def test_changes_no_belief(self):
        calls = [facts(2), world(1), actor(1, 2), deed(0, 1, 0, 2), far(0, 3), far(0, 0), far(0, 2)]
        self.assert_last([0, 1, 0], *calls, plan(0))

    def test_what_is_seen_and_told_does_not_matter(self):
        calls = [facts(2), actor(1, 3), deed(0, 0, 0, 1)]
        for more in ([], [world(1)], [world(3)], [tell(0, 1, 1)], [world(1), tell(0, 1, 1)]):
            for start, due in enumerate((0, 0, 2, 1)):
                self.assert_last([0, due], *calls, *more, far(0, start))

    def test_the_goal_now(self):
        self.assert_last([0, 1], facts(1), actor(0, 1), goal(0, 0, 1), far(0, 0))
        self.assert_last([0, 0], facts(1), actor(0, 1), goal(0, 0, 1), far(0, 1))

    def test_ranges(self):
        before = [facts(2), world(1), actor(1, 2), actor(3, 0, 1), deed(0, 1, 0, 2)]
        self.assert_range(before, far(0, 1), 1, 1)
        self.assert_range(before, far(0, 1), 2, 3)
        self.assert_range([facts(6), actor()], far(0, 0), 2, 63)
        self.assert_range([actor()], far(0, 0), 2, 0)
        self.assert_range([facts(1)], far(0, 0), 1, -1)
        for out in (far(2, 4), far(-1, -1), far(BIG, BIG), far(-BIG, -BIG)):
            self.assert_refused(-1, before, out)
