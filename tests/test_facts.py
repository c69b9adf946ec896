"""Call 0, facts."""

from tests.helper import BIG, LineTest, actor, ask, deed, facts, far, last, plan, tell, world


class Facts(LineTest):

    def test_each_number_of_facts(self):
        for n in range(7):
            self.assert_answers(
                (facts(n), [0]),
                (world((1 << n) - 1), [0]),
                (world(1 << n), [-1]),
                (actor(), [0, 0]),
                (tell(0, n, 1), [-1]),
                (far(0, (1 << n) - 1), [0, 1]),
                (far(0, 1 << n), [-1]),
            )

    def test_the_last_fact_is_there(self):
        for n in range(1, 7):
            self.assert_last([0], facts(n), actor(), tell(0, n - 1, 1))

    def test_no_facts_at_a_lines_beginning(self):
        self.assert_answers((world(1), [-1]), (world(0), [0]), (actor(1), [-1]), (actor(), [0, 0]), (tell(0, 0, 0), [-1]))

    def test_plans_without_facts(self):
        self.assert_answers((actor(), [0, 0]), (plan(0), [0, 1]), (deed(0), [0, 0]), (plan(0), [0, 1]), (far(0, 0), [0, 1]))

    def test_again_before_an_actor(self):
        self.assert_answers((facts(6), [0]), (facts(2), [0]), (world(4), [-1]), (facts(0), [0]), (world(1), [-1]))

    def test_nothing_is_so_behind_it(self):
        before = [facts(2), world(3)]
        sees_one = actor(3, 1)
        self.assertEqual(last(*before, sees_one, plan(0)), [0, 1])
        for n in (2, 3, 6):
            self.assertEqual(last(*before, facts(n), sees_one, plan(0)), [0, 0])
            self.assertEqual(last(*before, facts(n), actor(3, 0, 3), plan(0)), [0, 1])

    def test_range(self):
        self.assert_range([], facts(0), 1, 6)
        self.assert_range([facts(3), world(5)], facts(0), 1, 6)

    def test_not_where_there_is_an_actor(self):
        before = [facts(2), world(3), actor(1, 2)]
        for n in range(7):
            self.assert_refused(-3, before, facts(n))
            self.assert_refused(-3, before + [deed(0, 0, 0, 2)], facts(n))

    def test_range_goes_before_time(self):
        before = [facts(2), world(3), actor(1, 2)]
        for n in (-BIG, -1, 7, BIG):
            self.assert_refused(-1, before, facts(n))

    def test_a_refused_actor_is_none(self):
        self.assertEqual(ask(facts(1), actor(2), actor(0, 1, 1), facts(2)), [[0], [-1], [-2], [0]])
