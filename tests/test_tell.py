"""Call 4, tell."""

from tests.helper import BIG, LineTest, actor, believes, deed, facts, far, plan, tell, world

BEFORE = [facts(3), world(5), actor(1, 6), actor(6, 1), tell(0, 1, 1)]


class Tell(LineTest):

    def test_told_so_and_not_so(self):
        before = [facts(6), actor(0)]
        for fact in range(6):
            told = before + [tell(0, fact, 1)]
            self.assert_last([0], *told)
            for other in range(6):
                self.assertEqual(believes(told, 0, other), other == fact)
            unsaid = told + [tell(0, fact, 0)]
            self.assert_last([0], *unsaid)
            for other in range(6):
                self.assertFalse(believes(unsaid, 0, other))

    def test_told_twice_is_told_once(self):
        for v in (0, 1):
            for fact in (1, 2):
                calls = BEFORE + [tell(0, fact, v), tell(0, fact, v)]
                self.assert_last([0], *calls)
                self.assertEqual(believes(calls, 0, fact), v == 1)
                self.assertEqual(believes(calls, 0, 3 - fact), fact == 2)
                self.assertTrue(believes(calls, 0, 0))

    def test_told_not_so_where_all_else_is_believed(self):
        calls = [facts(6), actor(0)] + [tell(0, fact, 1) for fact in range(6)] + [tell(0, 3, 0)]
        for fact in range(6):
            self.assertEqual(believes(calls, 0, fact), fact != 3)

    def test_may_be_false(self):
        calls = [facts(1), world(1), actor(0), tell(0, 0, 0), actor(0), tell(1, 0, 1), world(0)]
        self.assertFalse(believes(calls, 0, 0))
        self.assertTrue(believes(calls, 1, 0))

    def test_one_actor_is_told(self):
        calls = [facts(1), actor(0), actor(0), tell(1, 0, 1), actor(1)]
        self.assertFalse(believes(calls, 0, 0))
        self.assertTrue(believes(calls, 1, 0))
        self.assertFalse(believes(calls, 2, 0))

    def test_plans_follow_what_is_told(self):
        calls = [facts(2), actor(0, 2), deed(0, 1, 0, 2)]
        self.assert_last([0, 0], *calls, plan(0))
        self.assert_last([0, 1, 0], *calls, tell(0, 0, 1), plan(0))
        self.assert_last([0, 1], *calls, tell(0, 1, 1), plan(0))
        self.assert_last([0, 0], *calls, tell(0, 0, 1), tell(0, 0, 0), plan(0))
        self.assert_last([0, 0], *calls, tell(0, 0, 1), far(0, 0))

    def test_ranges(self):
        for out in (-BIG, -1, 2, 3, BIG):
            self.assert_refused(-1, BEFORE, tell(out, 2, 1))
        for fact in (-BIG, -1, 3, 4, 6, 64, BIG):
            self.assert_refused(-1, BEFORE, tell(0, fact, 1))
        self.assert_range(BEFORE, tell(0, 2, 0), 3, 1)
        self.assert_range([facts(6), actor(0)], tell(0, 0, 1), 2, 5)
        self.assert_range([facts(6)] + [actor(0)] * 4, tell(0, 0, 1), 1, 3)

    def test_no_actor_and_no_facts(self):
        self.assert_range([facts(1)], tell(0, 0, 1), 1, -1)
        self.assert_range([actor()], tell(0, 0, 1), 2, -1)

    def test_not_of_what_it_sees(self):
        for v in (0, 1):
            self.assert_refused(-4, BEFORE, tell(0, 0, v))
            self.assert_refused(-4, BEFORE, tell(1, 1, v))
            self.assert_refused(-4, BEFORE, tell(1, 2, v))

    def test_range_goes_before_what_it_sees(self):
        for out in (tell(0, 0, 2), tell(0, 0, -1), tell(1, 1, BIG), tell(1, 2, -BIG), tell(2, 0, 1), tell(-1, 0, 1)):
            self.assert_refused(-1, BEFORE, out)
