"""Lines made by rule, held against a second, slower way to answer them."""

import random
import unittest

from tests.helper import BIG, MOST_CALLS, ask

# Of each call: the kinds of its numbers, and that of its row's.
WANTS = ("n", "assss", "sss", "s", "afv", "ass", "a", "as", "a", "a", "a", "a", "k", "a", "", "")
ROWS = {9: "s", 10: "d"}


def members(number):
    return frozenset(k for k in range(6) if number >> k & 1)


def told(facts):
    return sum(2 ** k for k in facts)


def taken(facts, one, other):
    """The other, but of the facts as it is in the one."""
    return frozenset(k for k in range(6) if k in (one if k in facts else other))


class Model:
    """The document's words over sets of facts; how far a goal is is found from the goal backwards."""

    def __init__(self):
        self.n = 0
        self.world = frozenset()
        self.actors = []
        self.deeds = []

    def answer(self, call):
        wants = WANTS[call[0]]
        numbers = call[1:]
        if call[0] in ROWS:
            wants += ROWS[call[0]] * numbers.pop(len(wants))
        if len(wants) != len(numbers):
            raise AssertionError(f"{call} is no call")
        own = [k for k, one in enumerate(self.deeds) if one[0] == numbers[0]] if "d" in wants else []
        right = {"n": range(7), "a": range(len(self.actors)), "s": range(2 ** self.n), "f": range(self.n), "v": range(2),
                 "k": range(1, 21), "d": own}
        if any(number not in right[kind] for number, kind in zip(numbers, wants)):
            return [-1]
        sets = [members(number) for number, kind in zip(numbers, wants) if kind == "s"]
        refusals = self.refusals(call[0], numbers, sets)
        if refusals:
            return [max(refusals)]
        if call[0] < 8:
            return [0] + self.change(call[0], numbers, sets)
        return [0] + self.later(call[0], numbers, sets)

    def refusals(self, call, numbers, sets):
        due = []
        pairs = {1: [(0, 1), (2, 3)], 2: [(1, 2)], 5: [(0, 1)]}.get(call, [])
        if any(sets[one] & sets[other] for one, other in pairs):
            due.append(-2)
        if call == 0 and (self.actors or self.deeds):
            due.append(-3)
        if call == 4 and numbers[1] in self.actors[numbers[0]]["sees"]:
            due.append(-4)
        if call == 8 and self.actors[numbers[0]]["belief"] in self.far(numbers[0]):
            due.append(-4)
        if call == 1 and len(self.deeds) == 24 or call == 2 and len(self.actors) == 4:
            due.append(-5)
        return due

    def change(self, call, numbers, sets):
        if call == 0:
            self.n = numbers[0]
            self.world = frozenset()
        elif call == 1:
            self.deeds.append((numbers[0], *sets))
            return [len(self.deeds) - 1]
        elif call == 2:
            self.actors.append({"sees": sets[0], "goal": sets[1:], "belief": sets[0] & self.world})
            return [len(self.actors) - 1]
        elif call == 3:
            self.become(sets[0])
        elif call == 4:
            one = self.actors[numbers[0]]
            one["belief"] = one["belief"] - {numbers[1]} | frozenset([numbers[1]] * numbers[2])
        elif call == 5:
            self.actors[numbers[0]]["goal"] = sets
        elif call == 6:
            return self.plan(numbers[0])
        else:
            return [self.far(numbers[0]).get(sets[0], -1) + 1]
        return []

    def later(self, call, numbers, sets):
        if call == 8:
            return sorted(told(w) for w in self.come_to(numbers[0]))
        if call == 9:
            return [int(self.proves(numbers[0], sets))]
        if call == 10:
            return self.follow(numbers[0], numbers[1:])
        if call == 11:
            return self.turn(numbers[0])
        if call == 12:
            return self.rounds(numbers[0])
        if call == 13:
            one = self.actors[numbers[0]]
            return [told(one["sees"]), told(one["goal"][0]), told(one["goal"][1]), told(one["belief"]),
                    int(self.reached(numbers[0], self.world))]
        if call == 14:
            return [self.n, told(self.world), len(self.actors), len(self.deeds)]
        return [number for one in self.deeds for number in [one[0]] + [told(facts) for facts in one[1:]]]

    def become(self, now):
        self.world = now
        for one in self.actors:
            one["belief"] = taken(one["sees"], now, one["belief"])

    def reached(self, number, where):
        to_be, not_to_be = self.actors[number]["goal"]
        return not to_be - where and not not_to_be & where

    def come_to(self, number):
        """All worlds that can be come to, those of one deed more at a time."""
        found = {self.actors[number]["belief"]}
        while True:
            more = {there for w in found for k, there in self.steps(number, w)} - found
            if not more:
                return found
            found |= more

    def proves(self, number, row):
        return self.actors[number]["belief"] in row and not any(self.reached(number, w) for w in row) and all(
            there in row for w in row for k, there in self.steps(number, w)
        )

    def follow(self, number, row):
        here = self.actors[number]["belief"]
        for place, k in enumerate(row):
            can = dict(self.steps(number, here))
            if k not in can:
                return [0, place + 1]
            here = can[k]
        return [1] if self.reached(number, here) else [0, len(row) + 1]

    def turn(self, number):
        one = self.actors[number]
        if self.reached(number, one["belief"]):
            return [0]
        plan = self.plan(number)
        if plan == [0]:
            return [1]
        tried = plan[1]
        can = dict(self.steps(number, self.world))
        if tried in can:
            one["belief"] = dict(self.steps(number, one["belief"]))[tried]
            self.become(can[tried])
            return [2, tried]
        asked = self.deeds[tried][1] | self.deeds[tried][2]
        one["belief"] = taken(asked, self.world, one["belief"])
        return [3, tried]

    def rounds(self, k):
        counted = 0
        for time in range(k):
            came = [self.turn(number)[0] for number in range(len(self.actors))]
            if not {2, 3} & set(came):
                break
            counted += 1
        return [counted, told(self.world)]

    def steps(self, number, start):
        """Each deed that the actor can do in the world, with what it brings."""
        for k, (whose, must, must_not, become, cease) in enumerate(self.deeds):
            if whose == number and must <= start and not must_not & start:
                yield k, start - cease | become

    def far(self, number):
        """Of each world that there is a plan from, how many deeds the shortest has."""
        to_be, not_to_be = self.actors[number]["goal"]
        worlds = [members(w) for w in range(2 ** self.n)]
        found = {w: 0 for w in worlds if to_be <= w and not not_to_be & w}
        deeds = 0
        while True:
            deeds += 1
            more = [w for w in worlds if w not in found and any(there in found for k, there in self.steps(number, w))]
            if not more:
                return found
            found.update({w: deeds for w in more})

    def plan(self, number):
        """The least deed that comes nearer, again and again."""
        found = self.far(number)
        here = self.actors[number]["belief"]
        if here not in found:
            return [0]
        taken = [1]
        while found[here] > 0:
            nearer = [(k, there) for k, there in self.steps(number, here) if found.get(there, 99) == found[here] - 1]
            k, here = nearer[0]
            taken.append(k)
        return taken


class Maker:
    """Makes lines of calls, the same ones at each run; a model goes along to tell how things are."""

    def __init__(self, seed, wild):
        self.random = random.Random(seed)
        self.wild = wild
        self.model = Model()
        self.calls = []

    def add(self, call):
        self.calls.append(call)
        self.model.answer(call)

    def number(self, end, least=0):
        """Mostly a number from the least to just below the end; now and then another one."""
        if end <= least or self.random.random() < self.wild:
            return self.random.choice([-BIG, least - 1, end, end + 1, BIG, 0])
        return self.random.randrange(least, end)

    def actor(self):
        return self.number(len(self.model.actors))

    def few(self, other=0, most=2):
        """A set with few facts, mostly none of the other set."""
        n = self.model.n
        if n == 0 or self.random.random() < self.wild:
            return self.number(2 ** n)
        facts = 0
        for time in range(self.random.randrange(most + 1)):
            facts |= 1 << self.random.randrange(n)
        return facts if self.random.random() < self.wild else facts & ~max(other, 0)

    def two(self, most=2):
        """Two sets; the one that is likely to be smaller comes first as often as last."""
        first = self.few(0, most)
        both = [first, self.few(first, most)]
        self.random.shuffle(both)
        return both

    def deed(self, number):
        """A deed that asks little and changes something, mostly."""
        return [1, number] + self.two(self.random.choice([0, 1, 1, 2])) + self.two(3)

    def wish(self):
        """A goal, now and then one of many facts."""
        if self.random.random() < 0.8:
            return self.two()
        end = 2 ** self.model.n
        to_be = self.random.randrange(end)
        return [to_be, self.random.randrange(end) & ~to_be]

    def spoilt(self, row, end):
        """The row, now and then with one left out, one more or one in the place of another."""
        row = list(row)
        for time in range(self.random.choice([0, 0, 1, 2])):
            at = self.random.randrange(len(row) + 1)
            row[at:at + self.random.randrange(2)] = [self.number(end)] * self.random.randrange(2)
        return row

    def worlds(self, number):
        """A row for check: often what proves it, in any order and some twice."""
        if number not in range(len(self.model.actors)) or self.random.random() < 0.1:
            return [self.number(2 ** self.model.n) for k in range(self.random.choice([0, 1, 2, 300]))]
        row = sorted(told(w) for w in self.model.come_to(number))
        row += self.random.choices(row, k=self.random.choice([0, 1, 5]))
        self.random.shuffle(row)
        return self.spoilt(row, 2 ** self.model.n)

    def deeds(self, number):
        """A row for follow: often a plan, or deeds that can be done in their turns."""
        end = len(self.model.deeds)
        if number not in range(len(self.model.actors)) or self.random.random() < 0.1:
            return [self.number(end) for k in range(self.random.choice([0, 1, 2, 300]))]
        row = self.model.plan(number)[1:]
        if self.random.random() < 0.5:
            here = self.model.actors[number]["belief"]
            row = []
            for time in range(self.random.choice([1, 2, 4, 8, 290])):
                can = list(self.model.steps(number, here))
                if can:
                    k, here = self.random.choice(can)
                    row.append(k)
        return self.spoilt(row, end)

    def call(self, which):
        end = 2 ** self.model.n
        if which in (9, 10):
            number = self.actor()
            row = self.worlds(number) if which == 9 else self.deeds(number)
            return [which, number, len(row)] + row
        numbers = {
            0: lambda: [self.number(7)],
            1: lambda: self.deed(self.actor())[1:],
            2: lambda: [self.number(end)] + self.wish(),
            3: lambda: [self.number(end)],
            4: lambda: [self.actor(), self.number(self.model.n), self.number(2)],
            5: lambda: [self.actor()] + self.wish(),
            7: lambda: [self.actor(), self.number(end)],
            12: lambda: [self.random.choice([1, 2, 20, self.number(21, 1), self.number(21, 1)])],
            14: lambda: [],
            15: lambda: [],
        }
        return [which] + numbers.get(which, lambda: [self.actor()])()

    def line(self, length):
        self.add([0, self.random.choice([0, 1, 2, 3, 4, 5, 6, 6])])
        if self.random.random() < 0.5:
            self.add(self.call(3))
        for k in range(self.random.choice([0, 1, 1, 2, 2, 3, 4])):
            self.add([2, self.random.randrange(2 ** self.model.n) & self.random.randrange(2 ** self.model.n)] + self.wish())
        for k in range(self.random.choice([0, 4, 8, 12, 16, 20, 23, 24, 24, 25])):
            self.add(self.call(1))
        often = [0, 1, 2, 3, 3, 4, 4, 4, 5, 5, 5, 6, 6, 7, 8, 8, 9, 9, 10, 10, 11, 11, 11, 11, 12, 13, 14, 15]
        while len(self.calls) < length:
            self.add(self.call(self.random.choice(often)))
        return self.calls

    def small_steps(self):
        """A line of one actor whose many deeds each change one fact, so that plans are long and have rivals."""
        self.add([0, 6])
        self.add([2, 63, 0, 0])
        for k in range(24):
            asked = self.random.sample(range(6), 3)
            must = 1 << asked[0] if self.random.random() < 0.6 else 0
            must_not = 1 << asked[1] if self.random.random() < 0.6 else 0
            change = [1 << asked[2], 0]
            self.random.shuffle(change)
            self.add([1, 0, must, must_not] + change)
        for k in range(40):
            to_be = self.random.randrange(64)
            self.add([3, self.random.randrange(64)])
            self.add([5, 0, to_be, 63 - to_be])
            for which in (6, 7, 8, 9, 10, self.random.choice([11, 12])):
                self.add(self.call(which))
        return self.calls

    def quarrel(self):
        """A line of four actors who see little, believe much that is false and want what others undo."""
        self.add([0, 6])
        for k in range(4):
            self.add([2, self.random.randrange(64) & self.random.randrange(64)] + self.wish())
        for k in range(24):
            self.add(self.deed(k % 4))
        while len(self.calls) < 200:
            for which in (self.random.choice([3, 4]), 4, 4, 5):
                self.add(self.call(which))
            number = self.calls[-1][1]
            self.add(self.random.choice([[11, number], [11, number], self.call(12)]))
            self.add([13, number])
        return self.calls


def reaches(call, got):
    """What the call is an example of."""
    if got[0] < 0:
        return call[0], got[0]
    if call[0] == 12:
        return 12, "none" if got[1] == 0 else "all" if got[1] == call[1] else "some"
    if call[0] in (9, 10, 11):
        return call[0], "so", got[1]
    if call[0] in (6, 8):
        return call[0], "long", min(len(got), 6)
    return call[0], "so"


def count(lines):
    """How often the lines' calls are an example of what."""
    seen = {}
    for calls in lines:
        for call, got in zip(calls, ask(*calls)):
            seen[reaches(call, got)] = seen.get(reaches(call, got), 0) + 1
    return seen


class AgainstTheModel(unittest.TestCase):

    def assert_as_model(self, calls):
        model = Model()
        for place, got in enumerate(ask(*calls)):
            due = model.answer(calls[place])
            self.assertEqual(got, due, f"call {place} of {calls[:place + 1]}")

    def test_lines_in_range(self):
        for seed in range(60):
            self.assert_as_model(Maker(seed, 0).line(70))

    def test_lines_with_wrong_numbers(self):
        for seed in range(60):
            self.assert_as_model(Maker(1000 + seed, 0.05).line(70))
            self.assert_as_model(Maker(2000 + seed, 0.3).line(70))

    def test_longest_lines(self):
        for seed in range(4):
            self.assert_as_model(Maker(3000 + seed, 0.02).line(MOST_CALLS))

    def test_long_plans_with_rivals(self):
        lengths = []
        for seed in range(8):
            calls = Maker(4000 + seed, 0).small_steps()
            self.assert_as_model(calls)
            lengths += [len(got) - 2 for call, got in zip(calls, ask(*calls)) if call[0] == 6]
        self.assertGreaterEqual(max(lengths), 8)
        self.assertIn(0, lengths)

    def test_quarrels(self):
        lines = [Maker(5000 + seed, 0).quarrel() for seed in range(12)]
        for calls in lines:
            self.assert_as_model(calls)
        seen = count(lines)
        for kind in [(11, "so", came) for came in range(4)] + [(12, "none"), (12, "some"), (12, "all")]:
            self.assertGreaterEqual(seen.get(kind, 0), 10, kind)

    def test_the_lines_reach_what_they_are_for(self):
        seen = count(
            [Maker(seed, 0).line(70) for seed in range(60)] + [Maker(1000 + seed, 0.05).line(70) for seed in range(60)]
            + [Maker(2000 + seed, 0.3).line(70) for seed in range(60)]
        )
        due = [(call, -1) for call in range(14)]
        due += [(0, -3), (1, -2), (1, -5), (2, -2), (2, -5), (4, -4), (5, -2), (8, -4)]
        due += [(call, "so") for call in (0, 1, 2, 3, 4, 5, 7, 13, 14, 15)]
        due += [(6, "long", length) for length in range(2, 5)] + [(8, "long", length) for length in range(2, 7)]
        due += [(9, "so", 0), (9, "so", 1), (10, "so", 0), (10, "so", 1)] + [(11, "so", came) for came in range(4)]
        due += [(12, "none"), (12, "some"), (12, "all")]
        for kind in due:
            self.assertGreaterEqual(seen.get(kind, 0), 5, kind)


if __name__ == "__main__":
    unittest.main()
