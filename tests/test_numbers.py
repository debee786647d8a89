"""[31] to [42], and [12] at the numbers: levels, rounds, rises, number rows and keeping."""

import unittest
from itertools import islice, permutations

from pursewebs.builders import chain, cut_down, ended, renamed, with_due
from pursewebs.errors import TooMuch, WrongKind
from pursewebs.falling import falling
from pursewebs.keeping import keep_row, number_of, whose
from pursewebs.listing import level_of, won_states
from pursewebs.rises import chip_rows, rise
from pursewebs.rounds import number_row, round_count, rounds
from pursewebs.spread import kept_off
from pursewebs.web import Web
from tests import plain
from tests.refusals import NO_INTEGERS, NO_ROWS, NO_WEBS, Refusals, numbers, too_much

GREAT = 10 ** 40
DUES = [None, ("chips", 0), ("chips", 2), ("less", 1)]
STANDS = NO_INTEGERS + numbers(-1, 4, 10 ** 50)
EVERY = Web([list(range(60))] * 60, [list(range(60))] * 60, [1, 2] * 30, [("chips", 3)] + [None] * 59)
ENDS = Web([[]] * 60, [[]] * 60, [1] * 60, [None, ("chips", 2), ("less", 2)] * 20)


def small_webs():
    """Webs of 1 and 2 stands, and some of 3 and 4."""
    found = list(plain.all_webs(1, DUES)) + list(plain.all_webs(2, [None, ("chips", 0)]))[::2]
    return found + list(plain.all_webs(2, DUES))[::13] + some()


def some():
    return list(plain.some_webs(3, 150, 11)) + list(plain.some_webs(4, 80, 12))


class Listing(Refusals):
    def test_levels_by_words(self):
        for web in small_webs()[::3]:
            for k in (0, 1, 3):
                for order in ("sealed", "first", "second"):
                    found = plain.levels(web, k, order)
                    for steps in (0, 1, 2, len(found) - 1, len(found), 10 ** 50, None):
                        level = found[-1] if steps is None or steps >= len(found) else found[steps]
                        told = tuple(tuple((v, a) in level for a in range(k + 1)) for v in range(web.size))
                        self.assertEqual(won_states(web, k, steps, order=order), told)
                self.assertEqual(plain.levels(web, k, "second"), plain.levels(web, k))

    def test_level_of_by_words(self):
        for web in small_webs()[::3]:
            for k in (0, 2):
                found = plain.levels(web, k)
                for v, a in plain.states(web, k):
                    least = next((at for at, level in enumerate(found) if (v, a) in level), None)
                    self.assertEqual(level_of(web, k, v, a), least)

    def test_kinds_of_results(self):
        told = won_states(Web.line(2), 1)
        self.assertEqual([type(told), type(told[0]), type(told[0][0])], [tuple, tuple, bool])

    def test_the_bounds(self):
        told = won_states(Web.line(7), 12)
        row = number_row(Web.line(7), 12)
        self.assertEqual(told, tuple(tuple(a >= part for a in range(13)) for part in row))
        self.assertEqual(won_states(Web.ring(8), 12, 10 ** 60, order="second"), ((False,) * 13,) * 8)
        for v, a in plain.states(Web.line(7), 12)[::3]:
            reached = [j for j, row in enumerate(rounds(Web.line(7), 12)) if a >= row[v]]
            self.assertEqual(level_of(Web.line(7), 12, v, a), min(reached, default=None))

    def test_refusals(self):
        web = Web.line(3)
        webs = NO_WEBS + [(Web.line(8), "f")]
        bounds = NO_INTEGERS + numbers(-1) + too_much(13, GREAT)
        steps = [bad for bad in NO_INTEGERS if bad[0] is not None] + numbers(-1)
        self.each_fault(won_states, [web, 2, 1], [webs, bounds, steps])
        orders = [(bad, "a") for bad in (None, 5, True, ["sealed"], b"sealed")]
        orders += [(bad, "c") for bad in ("", "Sealed", "third", "sealed ")]
        self.each_fault(lambda web, k, steps, order: won_states(web, k, steps, order=order), [web, 2, None, "first"],
                        [webs, bounds, steps, orders])
        with self.assertRaises(TypeError):
            won_states(web, 2, None, "first")
        self.each_fault(level_of, [web, 2, 1, 1], [webs, bounds, STANDS, NO_INTEGERS + numbers(-1, 14, GREAT + 9)])


class Rounds(Refusals):
    def test_rounds_by_words(self):
        for web in small_webs():
            for k in (0, 1, 4):
                rows = [tuple(plain.due_number(due, k) for due in web.dues)]
                while plain.next_row(web, k, rows[-1]) != rows[-1]:
                    rows.append(plain.next_row(web, k, rows[-1]))
                self.assertEqual(list(rounds(web, k)), rows)
                self.assertEqual(round_count(web, k), len(rows) - 1)
                self.assertEqual(number_row(web, k), rows[-1])

    def test_the_levels_of_rounds(self):
        for web in small_webs()[::3]:
            k = 3
            rows = list(rounds(web, k))
            levels = plain.levels(web, k)
            self.assertEqual(len(rows), len(levels))
            for row, level in zip(rows, levels):
                self.assertEqual({(v, a) for v, a in plain.states(web, k) if a >= row[v]}, level)
            for early, late in zip(rows, rows[1:]):
                self.assertTrue(all(old >= new for old, new in zip(early, late)))

    def test_how_many_rounds(self):
        for web in small_webs() + [Web.line(59), chain(58, 2), EVERY, ENDS]:
            for k in (0, 3):
                ranks, rest = falling(web, k, number_row(web, k))
                self.assertEqual(rest, ())
                self.assertLessEqual(round_count(web, k), max(ranks) * (k + 1))

    def test_the_greatest_solution(self):
        for web in small_webs()[::5]:
            for k in (0, 2) if web.size < 4 else (1,):
                row = number_row(web, k)
                self.assertEqual(plain.next_row(web, k, row), row)
                for other in plain.rows(web.size, k + 1):
                    if plain.next_row(web, k, other) == other:
                        self.assertTrue(all(part <= number for part, number in zip(other, row)))

    def test_great_webs(self):
        for web in (Web.line(59), Web.line(59, 2), Web.ring(60), chain(58), EVERY, ENDS):
            rows = list(rounds(web, 7))
            self.assertEqual(rows[0], tuple(plain.due_number(due, 7) for due in web.dues))
            self.assertEqual(rows[-1], number_row(web, 7))
            self.assertEqual(plain.next_row(web, 7, rows[-1]), rows[-1])
        self.assertEqual(number_row(ENDS, 5), (6, 2, 4) * 20)
        self.assertEqual(list(rounds(ENDS, 5)), [(6, 2, 4) * 20])

    def test_many_chips(self):
        self.assertEqual(number_row(Web.line(2), 5000), (0, 2500, 5001))
        self.assertEqual(number_row(Web.line(2, 2), 5000), (0, 2501, 5001))
        self.assertEqual(round_count(Web.line(2), 400), 1)
        self.assertEqual(list(rounds(Web.line(3), 400))[-1], number_row(Web.line(3), 400))

    def test_refusals(self):
        web = Web.line(3)
        for call, most in ((round_count, 400), (number_row, 5000), (lambda *args: next(rounds(*args)), 400)):
            self.each_fault(call, [web, 2], [NO_WEBS, NO_INTEGERS + numbers(-1, -GREAT) + too_much(most + 1, 10 ** 50)])

    def test_a_generator_raises_at_its_first_item(self):
        for args, error in (((None, 1), WrongKind), ((Web.line(2), 401), TooMuch)):
            made = rounds(*args)
            self.refused(error, lambda: next(made))


class Rises(Refusals):
    def test_rise_by_words(self):
        for web in small_webs():
            for k in (0, 2):
                for at, row in enumerate(plain.rows(web.size, k)):
                    if web.size < 3 or at % 5 == 0:
                        self.assertEqual(rise(web, k, row), plain.rise(web, k, row))

    def test_sets_that_can_rise(self):
        for web in some()[::6]:
            for row in plain.rows(web.size, 2)[::4]:
                right = [some for some in plain.subsets(range(web.size)) if plain.can_rise(web, 2, row, some)]
                for one in right:
                    for two in right:
                        self.assertIn(one | two, right)

    def test_one_chip_more(self):
        for web in small_webs():
            before = (0,) * web.size
            for k in range(4):
                risen = plain.rise(web, k, before)
                self.assertEqual(rise(web, k, list(before)), risen)
                after = plain.raised(before, risen)
                self.assertEqual(number_row(web, k), after)
                before = after

    def test_chip_rows(self):
        for web in small_webs()[::4] + [Web.line(59), Web.ring(60, 2), ENDS, EVERY]:
            rows = list(islice(chip_rows(web), 6))
            self.assertEqual(rows, [number_row(web, k) for k in range(6)])
            self.assertIs(type(rows[0]), tuple)
            self.assertEqual(number_row(web, 5), tuple(sum(row[v] > (rows[k - 1][v] if k else 0)
                                                           for k, row in enumerate(rows)) for v in range(web.size)))

    def test_the_last_row(self):
        made = chip_rows(Web.line(2))
        rows = list(islice(made, 5001))
        self.assertEqual(rows[5000], (0, 2500, 5001))
        self.refused(TooMuch, lambda: next(made))

    def test_two_generators_live_on_their_own(self):
        one, two = chip_rows(Web.line(2)), chip_rows(Web.line(2))
        self.assertEqual([next(one), next(one), next(two), next(one)], [(0, 0, 1), (0, 1, 2), (0, 0, 1), (0, 1, 3)])

    def test_refusals(self):
        web = Web.line(3)
        rows = NO_ROWS + [([0, 0, 0], "c"), ([0] * 5, "c"), ([0, -1, 0, 0], "c"), ([0, GREAT + 2, 0, 0], "c")]
        self.each_fault(rise, [web, GREAT, [0, GREAT, 0, 5]],
                        [NO_WEBS, NO_INTEGERS + numbers(-1) + too_much(GREAT + 1), rows])
        self.each_fault(rise, [web, 0, [0, 0, 0, 0]], [[], [], [([0, 1, 0, 0], "c"), ([0, 0, -1, 0], "c")]])
        for bad, _ in NO_WEBS:
            made = chip_rows(bad)
            self.refused(WrongKind, lambda: next(made))


class Numbers(Refusals):
    def test_numbers_by_words(self):
        for web in small_webs():
            for k in (0, 1, 2, 4) if web.size < 4 else (0, 3):
                self.assertEqual(number_row(web, k), plain.numbers(web, k))

    def test_more_purse(self):
        for web in small_webs()[::7]:
            won = [plain.levels(web, k)[-1] for k in range(5)]
            for k in range(4):
                for v, a in won[k]:
                    self.assertTrue(all((v, more) in won[k] for more in range(a, k + 1)))
                    self.assertIn((v, a + 1), won[k + 1])
                    self.assertTrue(k == 0 or a == k or (v, a) in won[k - 1])

    def test_changed_dues(self):
        for web in some()[::3]:
            k = 4
            row = number_row(web, k)
            for v in range(web.size):
                if web.dues[v] and web.dues[v][0] == "chips":
                    for j in (1, 3):
                        more = number_row(with_due(web, v, ("chips", web.dues[v][1] + j)), k)
                        self.assertTrue(all(old <= new <= old + j for old, new in zip(row, more)))
                self.assertEqual(number_row(ended(web, v, ("chips", row[v])), k), row)
                more = number_row(ended(web, v, ("chips", row[v] + 1)), k)
                self.assertTrue(all(old <= new <= old + 1 for old, new in zip(row, more)))
                if row[v]:
                    less = number_row(ended(web, v, ("chips", row[v] - 1)), k)
                    self.assertTrue(all(old - 1 <= new <= old for old, new in zip(row, less)))

    def test_changed_steps_and_marks(self):
        for web in some()[::3]:
            row = number_row(web, 3)
            for v in web.moving:
                changed = [with_steps(web, v, web.first[v] + (w,), web.second[v], web.marks[v]) for w in range(web.size)]
                changed += [with_steps(web, v, web.first[v], [w for w in web.second[v] if w != x], web.marks[v])
                            for x in web.second[v] if len(web.second[v]) > 1]
                if set(web.first[v]) & set(web.second[v]):
                    changed.append(with_steps(web, v, web.first[v], web.second[v], 1))
                for other in changed:
                    self.assertTrue(all(new <= old for old, new in zip(row, number_row(other, 3))))

    def test_plain_stands(self):
        for web in small_webs():
            row = number_row(web, 3)
            for v in range(web.size):
                if web.dues[v] == ("chips", 0):
                    self.assertEqual(row[v], 0)
                if web.dues[v] is None and len(web.first[v]) == 1 and web.first[v] == web.second[v]:
                    self.assertEqual(row[v], row[web.first[v][0]])
            if not any(web.dues):
                self.assertEqual(row, (4,) * web.size)

    def test_names_and_parts(self):
        for web in some()[::10]:
            row = number_row(web, 3)
            for order in list(permutations(range(web.size)))[::5]:
                told = number_row(renamed(web, order), 3)
                self.assertEqual([told[order[v]] for v in range(web.size)], list(row))
            for stands in plain.subsets(range(web.size)):
                if stands and all(w in stands for v in stands for w in web.first[v] + web.second[v]):
                    part, kept = cut_down(web, list(stands))
                    self.assertEqual(number_row(part, 3), tuple(row[v] for v in kept))

    def test_the_kept_off_set(self):
        for web in small_webs():
            if not any(due and due[0] == "less" for due in web.dues):
                off = [number_row(web, k) for k in range(9)]
                self.assertEqual(kept_off(web), tuple(v for v in range(web.size) if off[8][v] == 9))
                for v in kept_off(web):
                    self.assertEqual([row[v] for row in off], list(range(1, 10)))


def with_steps(web, stand, first, second, mark):
    firsts, seconds, marks = list(web.first), list(web.second), list(web.marks)
    firsts[stand], seconds[stand], marks[stand] = first, second, mark
    return Web(firsts, seconds, marks, web.dues)


class Keeping(Refusals):
    def test_keeping_by_words(self):
        for web in small_webs()[::3]:
            for k in (0, 1, 3):
                lost = plain.second_claims(web, k)
                row = tuple(min([a for a in range(k + 1) if (v, a) not in lost], default=k + 1)
                            for v in range(web.size))
                self.assertEqual(keep_row(web, k), row)
                self.assertEqual(lost, {(v, a) for v, a in plain.states(web, k) if a < row[v]})
                self.assertEqual(row, tuple(k + 1 - number for number in number_row(~web, k)))

    def test_number_of_and_whose(self):
        for web in small_webs()[::5]:
            for k in (0, 3):
                row = plain.numbers(web, k)
                won = plain.levels(web, k)[-1]
                for v, a in plain.states(web, k):
                    self.assertEqual(number_of(web, k, v), row[v])
                    self.assertEqual(whose(web, k, v, a), 1 if (v, a) in won else 2)

    def test_many_chips(self):
        self.assertEqual(keep_row(Web.line(2), 5000), (5001, 2500, 0))
        self.assertEqual((number_of(Web.line(59), 0, 59), whose(Web.line(2), 5000, 1, 2500)), (1, 1))
        self.assertEqual(whose(Web.line(2), 5000, 1, 2499), 2)

    def test_refusals(self):
        web = Web.line(3)
        bounds = NO_INTEGERS + numbers(-1) + too_much(5001, 10 ** 50)
        self.each_fault(keep_row, [web, 2], [NO_WEBS, bounds])
        self.each_fault(number_of, [web, 2, 1], [NO_WEBS, bounds, STANDS])
        self.each_fault(whose, [web, 2, 1, 1], [NO_WEBS, bounds, STANDS, NO_INTEGERS + numbers(-1, 5002, 10 ** 51)])


if __name__ == "__main__":
    unittest.main()
