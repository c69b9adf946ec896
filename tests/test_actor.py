"""Call 2, actor."""

from tests.helper import BIG, LineTest, actor, believes, deed, facts, plan, tell, world


class Actor(LineTest):

    def test_numbers_from_0(self):
        self.assert_answers((facts(2), [0]), (actor(), [0, 0]), (actor(3), [0, 1]), (actor(0, 1, 2), [0, 2]), (actor(), [0, 3]))

    def test_actors_without_facts(self):
        self.assert_answers(*[(actor(), [0, k]) for k in range(4)], (actor(), [-5]), (plan(3), [0, 1]), (plan(4), [-1]))

    def test_believes_what_it_sees_and_nothing_else(self):
        for is_so in range(8):
            for sees in range(8):
                calls = [facts(3), world(is_so), actor(sees)]
                for fact in range(3):
                    due = (is_so & sees) >> fact & 1 == 1
                    self.assertEqual(believes(calls, 0, fact), due, (is_so, sees, fact))

    def test_six_facts(self):
        calls = [facts(6), world(63), actor(63), actor(32), actor(0)]
        for fact in range(6):
            self.assertTrue(believes(calls, 0, fact))
            self.assertEqual(believes(calls, 1, fact), fact == 5)
            self.assertFalse(believes(calls, 2, fact))

    def test_goal(self):
        for to_be in range(4):
            for not_to_be in range(4):
                if to_be & not_to_be == 0:
                    for is_so in range(4):
                        reached = is_so & to_be == to_be and is_so & not_to_be == 0
                        calls = [facts(2), world(is_so), actor(3, to_be, not_to_be), plan(0)]
                        self.assert_last([0, 1] if reached else [0, 0], *calls)

    def test_a_new_actor_does_not_make_others_see(self):
        calls = [facts(2), world(1), actor(1), tell(0, 1, 1), actor(3)]
        self.assertTrue(believes(calls, 0, 0))
        self.assertTrue(believes(calls, 0, 1))
        self.assertFalse(believes(calls, 1, 1))

    def test_ranges(self):
        for place in range(1, 4):
            self.assert_range([facts(2), world(3), actor(1, 2)], actor(), place, 3)
            self.assert_range([facts(6), world(63)], actor(), place, 63)
            self.assert_range([facts(1)], actor(), place, 1)
            self.assert_range([], actor(), place, 0)

    def test_told_both_ways(self):
        before = [facts(2), world(3), actor(1, 2), deed(0, 1, 0, 2)]
        for both in (actor(0, 1, 1), actor(3, 3, 2), actor(0, 2, 3), actor(1, 3, 3)):
            self.assert_refused(-2, before, both)

    def test_what_is_seen_may_be_wanted(self):
        self.assert_last([0, 0], facts(2), actor(3, 1, 2))
        self.assert_last([0, 0], facts(2), actor(3, 3, 0))
        self.assert_last([0, 0], facts(2), actor(3, 0, 3))

    def test_no_place_for_a_fifth(self):
        before = [facts(2), world(3)] + [actor(k, k) for k in range(4)]
        self.assert_refused(-5, before, actor())
        self.assert_refused(-5, before, actor(3, 1, 2))

    def test_which_refusal_goes_first(self):
        before = [facts(2), world(3)]
        full = before + [actor(k, k) for k in range(4)]
        for out in (actor(4, 1, 1), actor(-1, 3, 3), actor(0, 4, 4), actor(0, 5, 1), actor(0, 1, 5), actor(BIG, 1, 1),
                    actor(-BIG, 2, 2), actor(0, -1, 1), actor(0, 1, -1)):
            self.assert_refused(-1, before, out)
            self.assert_refused(-1, full, out)
        self.assert_refused(-2, full, actor(0, 1, 1))
        self.assert_refused(-1, full, actor(4))

    def test_a_refused_actor_takes_no_number(self):
        self.assert_answers((facts(1), [0]), (actor(0, 1, 1), [-2]), (actor(2), [-1]), (actor(), [0, 0]), (actor(), [0, 1]))
