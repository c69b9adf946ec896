"""Call 15, deeds."""

from tests.helper import (
    LineTest, actor, ask, belief, check, deed, deeds, facts, far, follow, goal, plan, proof, rounds, state, tell, turn, world,
)

TWO = [facts(6), world(1), actor(1, 2), actor(3, 4), deed(1, 1, 2, 4, 8), deed(0, 32, 16, 2, 1)]
TWO_TOLD = [0, 1, 1, 2, 4, 8, 0, 32, 16, 2, 1]


class Deeds(LineTest):

    def test_no_deed(self):
        self.assertEqual(ask(deeds()), [[0]])
        self.assert_last([0], facts(6), actor(), deeds())

    def test_as_they_were_told(self):
        self.assert_last(TWO_TOLD, *TWO, deeds())
        self.assert_last([0, 0, 0, 0, 0, 0], actor(), deed(0), deeds())
        self.assert_last([0, 0, 63, 0, 0, 63], facts(6), actor(), deed(0, 63, 0, 0, 63), deeds())
        self.assert_last([0, 3, 0, 63, 63, 0], facts(6), *[actor()] * 4, deed(3, 0, 63, 63, 0), deeds())

    def test_the_same_deed_twice(self):
        self.assert_last([0, 0, 1, 0, 0, 1, 0, 1, 0, 0, 1], facts(1), actor(), *[deed(0, 1, 0, 0, 1)] * 2, deeds())

    def test_24_deeds(self):
        told = [[k % 4, k, 63 - k, k * 2, 0] for k in range(24)]
        calls = [facts(6)] + [actor()] * 4 + [[1] + one for one in told]
        every = [0] + [number for one in told for number in one]
        self.assert_last(every, *calls, deeds())
        self.assert_last(every, *calls, deed(0), deeds())

    def test_behind_each_new_deed(self):
        self.assert_answers(
            (facts(2), [0]), (actor(), [0, 0]), (deeds(), [0]), (deed(0, 1), [0, 0]), (deeds(), [0, 0, 1, 0, 0, 0]),
            (deed(0, 0, 2), [0, 1]), (deeds(), [0, 0, 1, 0, 0, 0, 0, 0, 2, 0, 0]),
        )

    def test_behind_refused_deeds(self):
        for refused in (deed(2), deed(-1), deed(0, 64), deed(0, 1, 1), deed(0, 0, 0, 1, 1)):
            self.assert_last(TWO_TOLD, *TWO, refused, deeds())

    def test_behind_all_other_calls(self):
        for call in (facts(2), actor(), world(33), tell(0, 5, 1), goal(0, 8), plan(0), far(0, 33), proof(0), check(0, [1]),
                     follow(0, [1]), turn(0), turn(1), rounds(20), belief(0), state(), deeds()):
            self.assert_last(TWO_TOLD, *TWO, call, deeds())

    def test_behind_deeds_that_are_done(self):
        calls = TWO + [world(33), tell(0, 5, 1), turn(0), turn(1), rounds(3)]
        self.assert_last([0, 2, 1], *calls[:-2])
        self.assert_last(TWO_TOLD, *calls, deeds())

    def test_changes_nothing(self):
        for before in ([], [facts(3), world(5)], TWO):
            self.assert_same_behind(before, deeds())
