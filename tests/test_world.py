"""Call 3, world."""

from tests.helper import LineTest, actor, believes, deed, facts, goal, plan, tell, world


class World(LineTest):

    def test_all_actors_see(self):
        before = [facts(3), actor(0), actor(1), actor(6), actor(7)]
        for is_so in range(8):
            calls = before + [world(is_so)]
            self.assert_last([0], *calls)
            for number, sees in enumerate((0, 1, 6, 7)):
                for fact in range(3):
                    due = (is_so & sees) >> fact & 1 == 1
                    self.assertEqual(believes(calls, number, fact), due, (is_so, number, fact))

    def test_what_ceases_is_seen_too(self):
        calls = [facts(2), world(3), actor(1), actor(3), world(0)]
        for number in (0, 1):
            for fact in (0, 1):
                self.assertFalse(believes(calls, number, fact))

    def test_what_is_not_seen_stays_believed(self):
        calls = [facts(3), actor(1), tell(0, 1, 1), world(5)]
        self.assertTrue(believes(calls, 0, 0))
        self.assertTrue(believes(calls, 0, 1))
        self.assertFalse(believes(calls, 0, 2))
        calls.append(world(2))
        self.assertFalse(believes(calls, 0, 0))
        self.assertTrue(believes(calls, 0, 1))
        self.assertFalse(believes(calls, 0, 2))

    def test_plans_begin_with_what_is_seen(self):
        calls = [facts(2), actor(1, 2), deed(0, 1, 0, 2), deed(0, 0, 0, 1)]
        self.assert_last([0, 1, 1, 0], *calls, plan(0))
        self.assert_last([0, 1, 0], *calls, world(1), plan(0))
        self.assert_last([0, 1, 0], *calls, world(3), plan(0))
        self.assert_last([0, 1, 1, 0], *calls, world(1), world(2), plan(0))

    def test_the_last_world_is_the_one_a_new_actor_sees(self):
        calls = [facts(2), world(1), world(2), actor(3)]
        self.assertFalse(believes(calls, 0, 0))
        self.assertTrue(believes(calls, 0, 1))

    def test_goals_stay(self):
        self.assert_last([0, 0], facts(1), actor(1), goal(0, 0, 1), world(1), plan(0))

    def test_range(self):
        self.assert_range([facts(2), world(1), actor(1), actor(3), tell(0, 1, 1)], world(0), 1, 3)
        self.assert_range([facts(6), world(33), actor(62)], world(0), 1, 63)
        self.assert_range([], world(0), 1, 0)
        self.assert_range([actor()], world(0), 1, 0)
