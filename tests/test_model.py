"""Lines made by rule, held against a second, slower way to answer them."""

import random
import unittest

from tests.helper import BIG, MOST_CALLS, ask

WANTS = ("n", "assss", "sss", "s", "afv", "ass", "a", "as")


def members(number):
    return frozenset(k for k in range(6) if number >> k & 1)


class Model:
    """The document's words over sets of facts; how far a goal is is found from the goal backwards."""

    def __init__(self):
        self.n = 0
        self.world = frozenset()
        self.actors = []
        self.deeds = []

    def answer(self, call):
        wants = WANTS[call[0]]
        numbers = call[1:]
        end = {"n": 7, "a": len(self.actors), "s": 2 ** self.n, "f": self.n, "v": 2}
        if any(number not in range(end[kind]) for number, kind in zip(numbers, wants)):
            return [-1]
        sets = [members(number) for number, kind in zip(numbers, wants) if kind == "s"]
        refusals = self.refusals(call[0], numbers, sets)
        if refusals:
            return [max(refusals)]
        return [0] + self.change(call[0], numbers, sets)

    def refusals(self, call, numbers, sets):
        due = []
        pairs = {1: [(0, 1), (2, 3)], 2: [(1, 2)], 5: [(0, 1)]}.get(call, [])
        if any(sets[one] & sets[other] for one, other in pairs):
            due.append(-2)
        if call == 0 and (self.actors or self.deeds):
            due.append(-3)
        if call == 4 and numbers[1] in self.actors[numbers[0]]["sees"]:
            due.append(-4)
        if call == 1 and len(self.deeds) == 24 or call == 2 and len(self.actors) == 4:
            due.append(-5)
        return due

    def change(self, call, numbers, sets):
        if call == 0:
            self.n = numbers[0]
            self.world = frozenset()
        elif call == 1:
            self.deeds.append((numbers[0], *sets))
            return [len(self.deeds) - 1]
        elif call == 2:
            self.actors.append({"sees": sets[0], "goal": sets[1:], "belief": sets[0] & self.world})
            return [len(self.actors) - 1]
        elif call == 3:
            self.world = sets[0]
            for one in self.actors:
                one["belief"] = frozenset(
                    f for f in range(self.n) if f in (self.world if f in one["sees"] else one["belief"])
                )
        elif call == 4:
            one = self.actors[numbers[0]]
            one["belief"] = one["belief"] - {numbers[1]} | frozenset([numbers[1]] * numbers[2])
        elif call == 5:
            self.actors[numbers[0]]["goal"] = sets
        elif call == 6:
            return self.plan(numbers[0])
        else:
            return [self.far(numbers[0]).get(sets[0], -1) + 1]
        return []

    def steps(self, number, start):
        """Each deed that the actor can do in the world, with what it brings."""
        for k, (whose, must, must_not, become, cease) in enumerate(self.deeds):
            if whose == number and must <= start and not must_not & start:
                yield k, start - cease | become

    def far(self, number):
        """Of each world that there is a plan from, how many deeds the shortest has."""
        to_be, not_to_be = self.actors[number]["goal"]
        worlds = [members(w) for w in range(2 ** self.n)]
        found = {w: 0 for w in worlds if to_be <= w and not not_to_be & w}
        deeds = 0
        while True:
            deeds += 1
            more = [w for w in worlds if w not in found and any(there in found for k, there in self.steps(number, w))]
            if not more:
                return found
            found.update({w: deeds for w in more})

    def plan(self, number):
        """The least deed that comes nearer, again and again."""
        found = self.far(number)
        here = self.actors[number]["belief"]
        if here not in found:
            return [0]
        taken = [1]
        while found[here] > 0:
            nearer = [(k, there) for k, there in self.steps(number, here) if found.get(there, 99) == found[here] - 1]
            k, here = nearer[0]
            taken.append(k)
        return taken


class Maker:
    """Makes lines of calls, the same ones at each run."""

    def __init__(self, seed, wild):
        self.random = random.Random(seed)
        self.wild = wild
        self.n = 0
        self.actors = 0

    def number(self, end):
        """Mostly a number from 0 to just below the end; now and then another one."""
        if end == 0 or self.random.random() < self.wild:
            return self.random.choice([-BIG, -1, end, end + 1, BIG, 0])
        return self.random.randrange(end)

    def few(self, other=0):
        """A set with few facts, mostly none of the other set."""
        if self.n == 0 or self.random.random() < self.wild:
            return self.number(2 ** self.n)
        facts = 0
        for time in range(self.random.randrange(3)):
            facts |= 1 << self.random.randrange(self.n)
        return facts if self.random.random() < self.wild else facts & ~max(other, 0)

    def two(self):
        first = self.few()
        return [first, self.few(first)]

    def wish(self):
        """A goal, in half of the cases one of many facts."""
        if self.random.random() < 0.5:
            return self.two()
        to_be = self.random.randrange(2 ** self.n)
        return [to_be, self.random.randrange(2 ** self.n) & ~to_be]

    def call(self, which):
        end = 2 ** self.n
        if which == 0:
            return [0, self.number(7)]
        if which == 1:
            return [1, self.number(self.actors)] + self.two() + self.two()
        if which == 2:
            return [2, self.number(end)] + self.wish()
        if which == 3:
            return [3, self.number(end)]
        if which == 4:
            return [4, self.number(self.actors), self.number(self.n), self.number(2)]
        if which == 5:
            return [5, self.number(self.actors)] + self.wish()
        if which == 6:
            return [6, self.number(self.actors)]
        return [7, self.number(self.actors), self.number(end)]

    def line(self, length):
        self.n = self.random.choice([0, 1, 2, 3, 4, 5, 6, 6])
        self.actors = self.random.choice([1, 1, 2, 3, 4])
        calls = [[0, self.n]]
        if self.random.random() < 0.5:
            calls.append(self.call(3))
        calls += [[2, self.random.randrange(2 ** self.n), 0, 0] for k in range(self.actors)]
        calls += [self.call(1) for k in range(self.random.choice([0, 4, 8, 12, 16, 20, 23, 24, 24, 25]))]
        often = [0, 1, 2, 3, 3, 4, 4, 4, 5, 5, 5, 6, 6, 6, 6, 6, 7, 7, 7]
        while len(calls) < length:
            calls.append(self.call(self.random.choice(often)))
        return calls

    def small_steps(self):
        """A line of one actor whose many deeds each change one fact, so that plans are long and have rivals."""
        self.n = 6
        self.actors = 1
        calls = [[0, 6], [2, 63, 0, 0]]
        for k in range(24):
            asked = self.random.sample(range(6), 3)
            must = 1 << asked[0] if self.random.random() < 0.6 else 0
            must_not = 1 << asked[1] if self.random.random() < 0.6 else 0
            change = [1 << asked[2], 0]
            self.random.shuffle(change)
            calls.append([1, 0, must, must_not] + change)
        for k in range(40):
            to_be = self.random.randrange(64)
            calls += [[3, self.random.randrange(64)], [5, 0, to_be, 63 - to_be], [6, 0], [7, 0, self.random.randrange(64)]]
        return calls


class AgainstTheModel(unittest.TestCase):

    def assert_as_model(self, calls):
        model = Model()
        for place, got in enumerate(ask(*calls)):
            due = model.answer(calls[place])
            self.assertEqual(got, due, f"call {place} of {calls[:place + 1]}")

    def test_lines_in_range(self):
        for seed in range(60):
            self.assert_as_model(Maker(seed, 0).line(70))

    def test_lines_with_wrong_numbers(self):
        for seed in range(60):
            self.assert_as_model(Maker(1000 + seed, 0.05).line(70))
            self.assert_as_model(Maker(2000 + seed, 0.3).line(70))

    def test_longest_lines(self):
        for seed in range(3):
            self.assert_as_model(Maker(3000 + seed, 0.05).line(MOST_CALLS))

    def test_long_plans_with_rivals(self):
        lengths = []
        for seed in range(8):
            calls = Maker(4000 + seed, 0).small_steps()
            self.assert_as_model(calls)
            lengths += [len(got) - 2 for call, got in zip(calls, ask(*calls)) if call[0] == 6]
        self.assertGreaterEqual(max(lengths), 8)
        self.assertIn(0, lengths)

    def test_the_lines_reach_what_they_are_for(self):
        seen = {}
        for seed in range(60):
            for calls in (Maker(seed, 0).line(70), Maker(1000 + seed, 0.05).line(70), Maker(2000 + seed, 0.3).line(70)):
                for call, got in zip(calls, ask(*calls)):
                    kind = (call[0], min(got[0], 0), min(len(got), 6) if call[0] == 6 else 0)
                    seen[kind] = seen.get(kind, 0) + 1
        for kind in ((0, -3, 0), (1, -2, 0), (1, -5, 0), (2, -2, 0), (2, -5, 0), (4, -4, 0), (5, -2, 0), (6, 0, 2),
                     (6, 0, 3), (6, 0, 4), (6, 0, 5), (6, 0, 6), (7, 0, 0), (7, -1, 0)):
            self.assertGreater(seen.get(kind, 0), 0, kind)


if __name__ == "__main__":
    unittest.main()
