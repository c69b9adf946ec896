"""Call 1, deed."""

from tests.helper import BIG, LineTest, actor, deed, facts, far, goal, plan, world

TWO = [facts(2), world(1), actor(1, 2), actor(3, 0, 1)]


class Deed(LineTest):

    def test_numbers_from_0(self):
        self.assert_answers(
            (facts(1), [0]), (actor(), [0, 0]), (actor(), [0, 1]),
            (deed(1), [0, 0]), (deed(0), [0, 1]), (deed(1, 1), [0, 2]),
        )

    def test_24_deeds(self):
        calls = TWO + [deed(k % 2, k % 4) for k in range(24)]
        self.assert_answers(*zip(calls, [[0], [0], [0, 0], [0, 1]] + [[0, k] for k in range(24)]))
        self.assert_refused(-5, calls, deed(0))
        self.assert_refused(-5, calls, deed(1, 1, 2, 2, 1))

    def test_the_24th_deed_is_taken(self):
        calls = TWO + [deed(0)] * 23 + [deed(0, 1, 0, 2)]
        self.assert_last([0, 1, 23], *calls, plan(0))

    def test_must(self):
        self.assert_far_of_one_deed(deed(0, 3, 0, 4), 4, {3: 2, 4: 1, 5: 1, 6: 1, 7: 1})

    def test_must_not(self):
        self.assert_far_of_one_deed(deed(0, 0, 3, 4), 4, {0: 2, 4: 1, 5: 1, 6: 1, 7: 1})

    def test_must_and_must_not(self):
        self.assert_far_of_one_deed(deed(0, 1, 2, 4), 4, {1: 2, 4: 1, 5: 1, 6: 1, 7: 1})

    def test_asks_nothing(self):
        self.assert_far_of_one_deed(deed(0, 0, 0, 7), 7, {0: 2, 1: 2, 2: 2, 3: 2, 4: 2, 5: 2, 6: 2, 7: 1})

    def test_asks_everything(self):
        self.assert_far_of_one_deed(deed(0, 7, 0, 0, 7), 0, {7: 2, 0: 1}, 7)
        self.assert_far_of_one_deed(deed(0, 0, 7, 7, 0), 7, {0: 2, 7: 1})

    def test_become_and_cease(self):
        self.assert_far_of_one_deed(deed(0, 0, 0, 1, 2), 5, {4: 2, 5: 1, 6: 2, 7: 2}, 2)
        self.assert_far_of_one_deed(deed(0, 0, 0, 1, 2), 1, {0: 2, 1: 1, 2: 2, 3: 2}, 6)

    def test_a_fact_may_be_asked_and_changed(self):
        self.assert_far_of_one_deed(deed(0, 1, 0, 0, 1), 0, {1: 2, 0: 1}, 7)
        self.assert_far_of_one_deed(deed(0, 0, 1, 1, 0), 1, {0: 2, 1: 1}, 6)
        self.assert_last([0, 0], facts(3), actor(0, 7), deed(0, 7, 0, 7), deed(0, 0, 7, 0, 7), plan(0))

    def assert_far_of_one_deed(self, one, to_be, due, not_to_be=0):
        """With the one deed alone, how far the goal is from each world of three facts."""
        for start in range(8):
            calls = [facts(3), actor(0, to_be, not_to_be), one, far(0, start)]
            self.assert_last([0, due.get(start, 0)], *calls)

    def test_ranges(self):
        for place in range(2, 6):
            self.assert_range(TWO, deed(0), place, 3)
        self.assert_range(TWO, deed(0), 1, 1)
        six = [facts(6), actor()]
        for place in range(2, 6):
            self.assert_range(six, deed(0), place, 63)

    def test_no_actor_and_no_facts(self):
        self.assert_range([facts(1)], deed(0), 1, -1)
        self.assert_range([], deed(0), 1, -1)
        for place in range(2, 6):
            self.assert_range([actor()], deed(0), place, 0)

    def test_told_both_ways(self):
        for both in (deed(0, 1, 1), deed(1, 3, 2), deed(0, 2, 3), deed(1, 3, 3), deed(0, 0, 0, 1, 1),
                     deed(0, 0, 0, 3, 1), deed(1, 0, 0, 2, 3), deed(0, 1, 1, 2, 2), deed(0, 1, 2, 3, 3)):
            self.assert_refused(-2, TWO, both)

    def test_not_told_both_ways(self):
        for fine in (deed(0, 1, 2, 1, 2), deed(0, 1, 2, 2, 1), deed(0, 3, 0, 3, 0), deed(0, 3, 0, 0, 3), deed(0, 0, 3, 0, 3)):
            self.assert_last([0, 0], *TWO, fine)

    def test_range_goes_before_both_ways(self):
        for out in (deed(2, 1, 1), deed(-1, 0, 0, 1, 1), deed(0, 4, 4), deed(0, 1, 1, 4), deed(0, 1, 1, 0, -1),
                    deed(BIG, 3, 3, 3, 3), deed(0, -1, 1), deed(0, 0, -BIG, 1, 1)):
            self.assert_refused(-1, TWO, out)

    def test_both_go_before_place(self):
        full = TWO + [deed(0)] * 24
        self.assert_refused(-2, full, deed(0, 1, 1))
        self.assert_refused(-2, full, deed(1, 0, 0, 2, 2))
        self.assert_refused(-1, full, deed(2))
        self.assert_refused(-1, full, deed(0, 4))
        self.assert_refused(-1, full, deed(-1, 1, 1, 2, 2))

    def test_a_refused_deed_takes_no_number(self):
        self.assert_answers(*zip(
            TWO + [deed(0), deed(2), deed(0, 1, 1), deed(0, 1, 0, 2), plan(0)],
            [[0], [0], [0, 0], [0, 1], [0, 0], [-1], [-2], [0, 1], [0, 1, 1]],
        ))

    def test_a_goal_told_later_does_not_change_deeds(self):
        self.assert_last([0, 1, 0], *TWO, deed(1, 1, 0, 0, 1), goal(1, 0, 3), plan(1))
