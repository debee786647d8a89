"""[101] and [106] to [108]: what marks mean, the lamp web, and turn rows."""

import unittest

from pursewebs.builders import chain
from pursewebs.errors import TooMuch
from pursewebs.marks import mark_range, marks_matter
from pursewebs.rounds import number_row
from pursewebs.sharerows import share_row
from pursewebs.turns import lamp_web, turn_rows
from pursewebs.web import Web
from tests import plain, plain_tables
from tests.refusals import NO_INTEGERS, NO_WEBS, Refusals, numbers, too_much

GREAT = 10 ** 40
CHIPS = NO_INTEGERS + numbers(-1, -(10 ** 50)) + too_much(5001, 10 ** 50)
UNEVEN = Web([[], [0, 1], [1]], [[], [1], [0, 2]], [1, 2, 1], [("chips", 0), None, ("less", 1)])


def marked(web, marks):
    return Web(web.first, web.second, marks, web.dues)


def meets(web):
    return all(set(web.first[v]) & set(web.second[v]) for v in web.moving)


def webs(many=40):
    return plain_tables.small_webs(many, 131, (1, 2, 3, 4)) + [Web.line(4), Web.line(4, 2), chain(3), Web.ring(3)]


def even_webs(many=40):
    return [Web(web.first, web.first, web.marks, web.dues) for web in webs(many)]


class Marks(Refusals):
    def test_ranges_by_words(self):
        for at, web in enumerate(webs()):
            k = at % 6
            one = plain_tables.number_row(marked(web, [1] * web.size), k)
            two = plain_tables.number_row(marked(web, [2] * web.size), k)
            self.assertEqual(mark_range(web, k), (one, two))
            rest = plain.falling(marked(web, [2] * web.size), k, one)[1]
            self.assertEqual(marks_matter(web, k), rest)
            self.assertEqual([type(mark_range(web, k)), type(marks_matter(web, k))], [tuple, tuple])

    def test_numbers_between(self):
        """[106], with any marks, and where marks matter; [101] for the shares."""
        seen = {}
        for at, web in enumerate(webs(120)):
            if not meets(web):
                continue
            k = at % 6
            one, two = mark_range(web, k)
            for marks in (web.marks, [1 + v % 2 for v in range(web.size)], [2 - v % 2 for v in range(web.size)]):
                row = plain_tables.number_row(marked(web, marks), k)
                self.assertTrue(all(low <= part <= high for low, part, high in zip(one, row, two)))
                self.assertTrue(share_row(marked(web, marks)) == share_row(web))
            matter = marks_matter(web, k)
            self.assertEqual(matter == (), one == two)
            self.assertTrue(all(two[v] > one[v] for v in matter))
            seen[matter == (), web.even] = True
        self.assertEqual(len(seen), 4)

    def test_many_chips(self):
        self.assertEqual(mark_range(Web.line(2, 2), 5000), ((0, 2500, 5001), (0, 2501, 5001)))
        self.assertEqual(marks_matter(Web.line(2, 2), 5000), (1,))
        self.assertEqual(marks_matter(Web.line(2, 2), 4999), ())
        self.assertEqual(mark_range(Web.ring(60), 3), ((4,) * 60, (4,) * 60))

    def test_refusals(self):
        for call in (mark_range, marks_matter):
            self.each_fault(call, [UNEVEN, 3], [NO_WEBS, CHIPS])


class Lamp(Refusals):
    def test_lamp_webs_by_words(self):
        for web in even_webs() + [Web.line(29), Web.ring(30)]:
            lamp = lamp_web(web)
            self.assertEqual(lamp.size, 2 * web.size)
            for v in range(web.size):
                for shown in (1, 2):
                    place = 2 * v + shown - 1
                    steps = {2 * w + (2 if shown == 1 else 1) - 1 for w in web.first[v]}
                    self.assertEqual((set(lamp.first[place]), set(lamp.second[place])), (steps, steps))
                    self.assertEqual((lamp.marks[place], lamp.dues[place]), (shown, web.dues[v]))

    def test_rows_by_words(self):
        for at, web in enumerate(even_webs()):
            k = at % 6
            row = plain_tables.number_row(lamp_web(web), k)
            found = turn_rows(web, k)
            self.assertEqual(found, (tuple(row[2 * v] for v in range(web.size)),
                                     tuple(row[2 * v + 1] for v in range(web.size))))
            self.assertEqual((type(found), type(found[0])), (tuple, tuple))
            one = plain_tables.number_row(marked(web, [1] * web.size), k)
            two = plain_tables.number_row(marked(web, [2] * web.size), k)
            for told in found:
                self.assertTrue(all(low <= part <= high for low, part, high in zip(one, told, two)))

    def test_rows_by_moves(self):
        """[107] as a game of its own, with the lamp in the state."""
        for at, web in enumerate(plain.some_webs(3, 25, 132)):
            web = Web(web.first, web.first, web.marks, web.dues)
            k = at % 4
            won = lamp_levels(web, k)
            for shown, row in zip((1, 2), turn_rows(web, k)):
                for v, a in plain.states(web, k):
                    self.assertEqual((v, shown, a) in won, a >= row[v])

    def test_shares_with_the_lamp(self):
        """[108]"""
        many = 0
        for web in even_webs():
            if web.size <= 5 and len(web.moving) <= 3:
                row = share_row(web)
                lamp = share_row(lamp_web(web))
                self.assertTrue(lamp[::2] == row and lamp[1::2] == row)
                many += 1
        self.assertGreater(many, 60)

    def test_bounds(self):
        self.assertEqual(turn_rows(Web.line(2), 5000), ((0, 2500, 5001), (0, 2501, 5001)))
        row = number_row(lamp_web(Web.line(29)), 50)
        self.assertEqual(turn_rows(Web.line(29, 2), 50), (row[::2], row[1::2]))
        self.assertEqual(lamp_web(Web.ring(30)).size, 60)
        for web in (Web.ring(31), Web.line(30), Web.line(59)):
            self.refused(TooMuch, lamp_web, web)
            self.refused(TooMuch, turn_rows, web, 1)

    def test_refusals(self):
        great = [list(range(60))] * 60
        uneven = Web(great, [[0]] * 60, [1] * 60, [None] * 60)
        webs = NO_WEBS + [(UNEVEN, "b"), (uneven, "b"), (Web.line(30), "f")]
        self.each_fault(lamp_web, [Web.line(29)], [webs])
        self.each_fault(turn_rows, [Web.line(3), 3], [webs, CHIPS])


def lamp_levels(web, k):
    """The states (v, shown, a) that the first hand wins, by levels as in [32] with the lamp's ties."""
    states = [(v, shown, a) for v in range(web.size) for shown in (1, 2) for a in range(k + 1)]
    level = {(v, shown, a) for v, shown, a in states if a >= plain.due_number(web.dues[v], k)}
    while True:
        after = level | {(v, shown, a) for v, shown, a in states if web.first[v] and any(
            all(lamp_leads(web, level, v, shown, a, p, q) for q in range(k - a + 1)) for p in range(a + 1))}
        if after == level:
            return level
        level = after


def lamp_leads(web, level, v, shown, a, p, q):
    if p > q or (p == q and shown == 1):
        return any((w, 3 - shown, a - p) in level for w in web.first[v])
    return all((w, 3 - shown, a + q) in level for w in web.second[v])


if __name__ == "__main__":
    unittest.main()
