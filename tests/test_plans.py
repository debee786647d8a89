"""[51] to [53]: the plans of both hands, and what they keep."""

import unittest

from pursewebs.builders import chain
from pursewebs.errors import WrongDeed, WrongNumber
from pursewebs.falling import falling
from pursewebs.plans import FirstPlan, Plan, SecondPlan
from pursewebs.rounds import number_row
from pursewebs.web import Web
from tests import plain
from tests.refusals import NO_INTEGERS, NO_ROWS, NO_WEBS, Refusals, numbers, too_much

GREAT = 10 ** 40
DUES = [None, ("chips", 0), ("chips", 2), ("less", 1)]
BOUNDS = NO_INTEGERS + numbers(-1) + too_much(GREAT + 1)
LENGTHS = [([], "c"), ((0, 0, 0), "c"), ([0] * 5, "c")]
ROWS = NO_ROWS + LENGTHS + [([0, -1, 0, 0], "c"), ([0, 0, GREAT + 3, 0], "c")]
STANDS = NO_INTEGERS + numbers(-1, 4, 10 ** 50)
MOVING = STANDS + [(0, "d"), (3, "d")]


def cases():
    webs = list(plain.all_webs(2, DUES))[::41] + list(plain.some_webs(3, 60, 31)) + list(plain.some_webs(4, 20, 32))
    for at, web in enumerate(webs):
        yield web, at % 4 if web.size < 4 else at % 3


def ranked_cases():
    """Webs with k, a row and ranks: those of the number row, and others."""
    for web, k in cases():
        row = number_row(web, k)
        yield web, k, row, falling(web, k, row)[0]
        for at, other in enumerate(plain.rows(web.size, k + 1)[::7]):
            yield web, k, other, [(3 * at + v * v) % 4 for v in range(web.size)]


def plain_first(web, k, row, ranks, v, a):
    """The words of [51] for a stand with steps."""
    e, i = a - row[v], ranks[v]
    if e < 0 or i == 0:
        return 0, min(web.first[v])
    h = [row[w] + e + (1 if ranks[w] >= i else 0) for w in range(web.size)]
    told = max(0, plain.high(web, h, v) - a - (1 if web.marks[v] == 1 else 0))
    best = [w for w in web.first[v] if row[w] == plain.low(web, row, v)]
    return min(told, a), min([w for w in best if ranks[w] < i] or best)


def plain_second(web, k, row, v, a):
    """The words of [52] for a stand with steps."""
    if a >= row[v]:
        return 0, min(web.second[v])
    told = max(0, a - plain.low(web, row, v) + (1 if web.marks[v] == 1 else 0))
    return min(told, k - a), min(w for w in web.second[v] if row[w] == plain.high(web, row, v))


def upper_cases():
    """Webs with k and all rows with ranks that are upper, as far as small ones go."""
    for web, k in cases():
        row = number_row(web, k)
        yield web, k, row, falling(web, k, row)[0]
        if web.size == 2:
            for other in plain.rows(2, k + 1):
                for ranks in plain.rows(2, 2):
                    if not plain.upper_faults(web, k, other, ranks):
                        yield web, k, other, ranks


class First(Refusals):
    def test_bids_and_steps_by_words(self):
        for web, k, row, ranks in ranked_cases():
            plan = FirstPlan(web, k, list(row), ranks)
            for v, a in plain.states(web, k):
                if v in web.moving:
                    self.assertEqual(plan(v, a), plain_first(web, k, row, ranks, v, a))
                    self.assertIs(type(plan(v, a)), tuple)

    def test_what_a_plan_tells(self):
        for web, k, row, ranks in ranked_cases():
            plan = FirstPlan(web, k, row, ranks)
            self.assertTrue(plan.web == web)
            self.assertEqual((plan.chips, plan.row, plan.ranks), (k, tuple(row), tuple(ranks)))
            for v, a in plain.states(web, k):
                e = a - row[v]
                claims = ranks[v] == 0 and a >= plain.due_number(web.dues[v], k)
                self.assertEqual((plan.spare(v, a), plan.claims(v, a)), (e, claims))
                self.assertEqual(plan.falls(v, a), (k - e, ranks[v]) if e >= 0 else None)
                left = None if e < 0 else 0 if claims else max(ranks) * (k + 1 - e)
                self.assertEqual(plan.steps_left(v, a), left)

    def test_what_the_plan_keeps(self):
        for web, k, row, ranks in upper_cases():
            plan = FirstPlan(web, k, row, ranks)
            for v, a in plain.states(web, k):
                if a >= row[v] and ranks[v] == 0:
                    self.assertIs(plan.claims(v, a), True)
                elif a >= row[v]:
                    self.check_moves(plan, web, v, a)

    def check_moves(self, plan, web, v, a):
        p, step = plan(v, a)
        self.assertIn(step, web.first[v])
        for q in range(plan.chips - a + 1):
            gets = plain.first_gets(web, v, p, q)
            for w in [step] if gets else web.second[v]:
                after = a - p if gets else a + q
                self.assertGreaterEqual(after, plan.row[w])
                self.assertLess(plan.falls(w, after), plan.falls(v, a))
                self.assertGreaterEqual(plan.spare(w, after), plan.spare(v, a))

    def test_how_many_moves(self):
        for web, k in cases():
            row = number_row(web, k)
            plan = FirstPlan(web, k, row, falling(web, k, row)[0])
            for v, a in plain.states(web, k):
                if a >= row[v]:
                    self.assertLessEqual(longest(plan, web, v, a), plan.steps_left(v, a))

    def test_great_webs(self):
        for web in (Web.line(59), chain(58, 2)):
            row = number_row(web, 20)
            ranks = falling(web, 20, row)[0]
            plan = FirstPlan(web, 20, row, ranks)
            for v in web.moving:
                for a in (0, 10, 20):
                    self.assertEqual(plan(v, a), plain_first(web, 20, row, ranks, v, a))

    def test_great_numbers(self):
        plan = FirstPlan(Web.line(3), GREAT, (0, 5, GREAT, GREAT + 1), (0, 10 ** 50, 1, 0))
        for a in (0, 5, GREAT):
            told = plain_first(Web.line(3), GREAT, plan.row, plan.ranks, 1, a)
            self.assertEqual(plan(1, a), told)
        self.assertEqual(plan.steps_left(1, GREAT), 10 ** 50 * 6)
        self.assertEqual((plan.falls(1, GREAT), plan.falls(1, 4)), ((5, 10 ** 50), None))

    def test_the_same_answer_again(self):
        web = Web.line(3)
        plan = FirstPlan(web, 3, (0, 1, 3, 4), (0, 2, 1, 0))
        told = {(v, a): plan(v, a) for v in (1, 2) for a in range(4)}
        for v, a in reversed(list(told)):
            self.assertEqual(plan(v, a), told[v, a])

    def test_a_plan_lives_on_its_own(self):
        row, ranks = [0, 0, 1, 2], [0, 2, 1, 0]
        plan = FirstPlan(Web.line(3), 1, row, ranks)
        row[1] = ranks[1] = 1
        self.assertEqual((plan.row, plan.ranks), ((0, 0, 1, 2), (0, 2, 1, 0)))

    def test_refusals(self):
        ranks = NO_ROWS + LENGTHS + [([0, 0, 0, -1], "c")]
        self.each_fault(FirstPlan, [Web.line(3), GREAT, (0, 0, GREAT + 1, 0), [0, 10 ** 50, 0, 1]],
                        [NO_WEBS, BOUNDS, ROWS, ranks])
        plan = FirstPlan(Web.line(3), 1, (0, 0, 1, 2), (0, 2, 1, 0))
        check_state_calls(self, plan, [plan.spare, plan.claims, plan.falls, plan.steps_left])


def longest(plan, web, v, a):
    """The greatest number of moves until the plan claims."""
    if plan.claims(v, a):
        return 0
    p, step = plan(v, a)
    found = []
    for q in range(plan.chips - a + 1):
        gets = plain.first_gets(web, v, p, q)
        for w in [step] if gets else web.second[v]:
            found.append(1 + longest(plan, web, w, a - p if gets else a + q))
    return max(found)


def check_state_calls(test, plan, calls):
    """The faults of the calls of a plan of Web.line(3) at k = 1."""
    purses = NO_INTEGERS + numbers(-1, 2, GREAT)
    test.each_fault(plan, [1, 1], [MOVING, purses])
    for call in calls:
        test.each_fault(call, [0, 1], [STANDS, purses])


class Second(Refusals):
    def test_bids_and_steps_by_words(self):
        for web, k, row, _ in ranked_cases():
            plan = SecondPlan(web, k, list(row))
            self.assertEqual((plan.chips, plan.row), (k, tuple(row)))
            for v, a in plain.states(web, k):
                self.assertEqual(plan.spare(v, a), a - row[v])
                if v in web.moving:
                    self.assertEqual(plan(v, a), plain_second(web, k, row, v, a))

    def test_what_the_plan_keeps(self):
        for web, k in cases():
            lower = [row for row in plain.rows(web.size, k + 1) if not plain.lower_faults(web, k, row)]
            for row in lower[::1 if web.size < 3 else 9] + [number_row(web, k)]:
                plan = SecondPlan(web, k, row)
                for v, a in plain.states(web, k):
                    if a < row[v] and v in web.moving:
                        self.check_moves(plan, web, v, a)

    def check_moves(self, plan, web, v, a):
        q, step = plan(v, a)
        self.assertIn(step, web.second[v])
        for p in range(a + 1):
            gets = plain.first_gets(web, v, p, q)
            for w in web.first[v] if gets else [step]:
                self.assertLess(a - p if gets else a + q, plan.row[w])

    def test_refusals(self):
        self.each_fault(SecondPlan, [Web.line(3), GREAT, (0, 0, GREAT + 1, 0)], [NO_WEBS, BOUNDS, ROWS])
        plan = SecondPlan(Web.line(3), 1, (0, 0, 1, 2))
        check_state_calls(self, plan, [plan.spare])
        zeros = (0, 0, 0, 0)
        self.refused(WrongNumber, SecondPlan, Web.line(3), -1, zeros)
        self.refused(WrongNumber, FirstPlan, Web.line(3), -1, zeros, zeros)


class Base(Refusals):
    def test_a_plan_of_no_subclass(self):
        plan = Plan(Web.line(3), 2, [-5, 10 ** 50, 0, 7])
        self.assertEqual((plan.web.size, plan.chips, plan.row), (4, 2, (-5, 10 ** 50, 0, 7)))
        self.assertEqual([plan.spare(0, 2), plan.spare(1, 0), plan.spare(3, 1)], [7, -10 ** 50, -6])
        for stand, purse in ((1, 0), (0, 0), (99, -1), (None, "x"), (True, [])):
            self.refused(WrongDeed, plan, stand, purse)

    def test_subclasses(self):
        self.assertTrue(issubclass(FirstPlan, Plan) and issubclass(SecondPlan, Plan))
        for name in ("__call__", "claims", "falls", "steps_left"):
            self.assertIn(name, vars(FirstPlan))
        self.assertTrue("__call__" in vars(SecondPlan) and "spare" in vars(Plan))

    def test_refusals(self):
        self.each_fault(Plan, [Web.line(3), GREAT, (0, -5, 10 ** 50, 0)], [NO_WEBS, BOUNDS, NO_ROWS + LENGTHS])
        plan = Plan(Web.line(3), 1, (0, 0, 1, 2))
        self.each_fault(plan.spare, [0, 1], [STANDS, NO_INTEGERS + numbers(-1, 2, GREAT)])


if __name__ == "__main__":
    unittest.main()
