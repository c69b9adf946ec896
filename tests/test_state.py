"""Call 14, state."""

from tests.helper import (
    LineTest, actor, ask, belief, check, counter, deed, deeds, facts, far, follow, goal, plan, proof, rounds, state, tell,
    turn, world,
)


class State(LineTest):

    def test_at_a_lines_beginning(self):
        self.assertEqual(ask(state()), [[0, 0, 0, 0, 0]])

    def test_behind_facts(self):
        for n in range(7):
            self.assert_last([0, n, 0, 0, 0], facts(n), state())
            self.assert_last([0, n, 0, 0, 0], facts(6), world(63), facts(n), state())
        self.assert_last([0, 2, 3, 0, 0], facts(2), world(3), facts(7), state())
        self.assert_last([0, 2, 3, 1, 0], facts(2), world(3), actor(), facts(1), state())

    def test_behind_world(self):
        for is_so in (0, 1, 32, 62, 63):
            self.assert_last([0, 6, is_so, 0, 0], facts(6), world(is_so), state())
            self.assert_last([0, 6, is_so, 0, 0], facts(6), world(63), world(is_so), state())
        self.assert_last([0, 6, 63, 0, 0], facts(6), world(63), world(64), state())

    def test_behind_actor(self):
        for how_many in range(5):
            self.assert_last([0, 2, 2, how_many, 0], facts(2), world(2), *[actor(3, 1)] * how_many, state())
        self.assert_last([0, 2, 2, 4, 0], facts(2), world(2), *[actor(3, 1)] * 5, state())
        self.assert_last([0, 2, 0, 0, 0], facts(2), actor(4), actor(0, 1, 1), state())

    def test_behind_deed(self):
        for how_many in (0, 1, 2, 23, 24):
            self.assert_last([0, 1, 0, 2, how_many], facts(1), actor(), actor(), *[deed(1)] * how_many, state())
        self.assert_last([0, 1, 0, 1, 24], facts(1), actor(), *[deed(0)] * 25, state())
        self.assert_last([0, 1, 0, 1, 0], facts(1), actor(), deed(1), deed(0, 1, 1), state())

    def test_all_there_can_be(self):
        calls = [facts(6), world(63)] + [actor(63)] * 4 + [deed(3)] * 24
        self.assert_last([0, 6, 63, 4, 24], *calls, state())

    def test_behind_tell_and_goal(self):
        before = [facts(2), world(1), actor(1), deed(0)]
        self.assert_last([0, 2, 1, 1, 1], *before, tell(0, 1, 1), state())
        self.assert_last([0, 2, 1, 1, 1], *before, goal(0, 2, 1), state())

    def test_behind_calls_that_only_ask(self):
        before = [facts(2), world(1), actor(1, 2), deed(0, 0, 0, 2)]
        for call in (plan(0), far(0, 3), proof(0), check(0, [1]), follow(0, [0]), belief(0), state(), deeds()):
            self.assert_last([0, 2, 1, 1, 1], *before, call, state())

    def test_behind_turn(self):
        self.assert_last([0, 3, 5, 1, 1], facts(3), world(6), actor(7, 1), deed(0, 4, 0, 1, 2), turn(0), state())
        self.assert_last([0, 3, 2, 1, 1], facts(3), world(2), actor(0, 1), deed(0, 0, 2, 1, 4), turn(0), state())
        self.assert_last([0, 3, 2, 1, 1], facts(3), world(2), actor(0, 1), deed(0, 4, 0, 1, 2), turn(0), state())
        self.assert_last([0, 3, 2, 1, 1], facts(3), world(2), actor(7, 2), deed(0, 0, 0, 7), turn(0), state())

    def test_behind_rounds(self):
        calls = [facts(6), actor(63, 63)] + counter(0)
        self.assert_last([0, 6, 17, 1, 6], *calls, rounds(17), state())
        self.assert_last([0, 6, 0, 1, 6], *calls, rounds(0), state())
        self.assert_last([0, 6, 0, 1, 6], *calls, rounds(21), state())

    def test_changes_nothing(self):
        for before in ([], [facts(3), world(5)], [facts(2), world(1), actor(1, 2), deed(0, 1, 0, 2)]):
            self.assert_same_behind(before, state())
