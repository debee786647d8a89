"""[166] and [167]: rules, their numbers, whose a state is, and advice."""

import time
import unittest

from pursewebs.builders import chain, with_due
from pursewebs.errors import TooMuch, WrongDeed, WrongKind, WrongNumber, WrongWeb
from pursewebs.rules import BankRule, HandRule, Rule, TokenRule, TurnsRule, rule_named
from pursewebs.turns import turn_rows
from pursewebs.web import Web
from tests import plain, plain_rules, plain_token
from tests.refusals import NO_INTEGERS, NO_WEBS, Refusals, numbers, too_much
from tests.test_bank import EVERY

GREAT = 10 ** 40
LINE = Web.line(3)
UNEVEN = Web([[], [0, 1], [1], []], [[], [1], [0, 2], []], [1, 2, 1, 1], [("chips", 0), None, ("less", 1), None])
RULES = [HandRule(), TurnsRule(), TokenRule(), BankRule()]
STANDS = NO_INTEGERS + numbers(-1, 4, 10 ** 50)
MOST = {"hand": 5000, "turns": 5000, "token": 200, "bank": 60}


def cases(many=20, sizes=(1, 2, 3, 4)):
    """Webs, even or not, with k."""
    webs = [web for size in sizes for web in plain.some_webs(size, many, 260 + size)]
    webs += [LINE, Web.line(3, 2), chain(2), Web.ring(2), UNEVEN, Web.line(4)]
    for at, web in enumerate(webs):
        yield (web if at % 3 == 0 else Web(web.first, web.first, web.marks, web.dues)), at % 5


def fitting(web):
    return [rule for rule in RULES if rule.word in ("hand", "bank") or web.first == web.second]


class Rules(Refusals):
    def test_words_and_equality(self):
        self.assertEqual([rule.word for rule in RULES], ["hand", "turns", "token", "bank"])
        self.assertEqual(Rule().word, "")
        for rule in RULES:
            self.assertTrue(isinstance(rule, Rule) and rule_named(rule.word) == rule)
            self.assertIs(type(rule_named(rule.word)), type(rule))
            self.assertEqual([rule == other for other in RULES], [rule is other for other in RULES])
            self.assertEqual([rule != other for other in RULES], [rule is not other for other in RULES])
            self.assertFalse(rule == Rule() or rule == rule.word or Rule() == rule)
            for name in ("fits", "greatest_purse", "numbers", "told", "advice"):
                self.assertIn(name, vars(type(rule)))
        self.assertTrue(Rule() == Rule() and HandRule() == HandRule())

    def test_the_base_class(self):
        for args in ((LINE, 3), (None, "x"), (UNEVEN, -1)):
            self.refused(WrongDeed, Rule().numbers, *args)
        for args in ((LINE, 3, 1, 1), (None, True, [], "x"), (LINE, 10 ** 50, -1, -1)):
            self.refused(WrongDeed, Rule().advice, *args)

    def test_fits_and_purses(self):
        for rule in RULES:
            self.assertIs(rule.fits(LINE), True)
            self.assertIs(rule.fits(Web.line(59)), True)
            self.assertIs(rule.fits(UNEVEN), rule.word in ("hand", "bank"))
            for k in (0, 1, 77, GREAT, 10 ** 50):
                self.assertEqual(rule.greatest_purse(k), plain_rules.greatest_purse(rule.word, k))
            self.each_fault(rule.fits, [LINE], [NO_WEBS])
            self.each_fault(rule.greatest_purse, [GREAT], [NO_INTEGERS + numbers(-1, -(10 ** 50))])

    def test_numbers_by_words(self):
        for web, k in cases():
            for rule in fitting(web):
                row = plain_rules.numbers(rule.word, web, k)
                self.assertEqual(rule.numbers(web, k), row)
                self.assertIs(type(rule.numbers(web, k)), tuple)
                for v in range(web.size):
                    for purse in range(rule.greatest_purse(k) + 1):
                        self.assertEqual(rule.told(web, k, v, purse), 1 if purse >= row[v] else 2)

    def test_advice_by_words(self):
        seen = {}
        for web, k in cases():
            for rule in fitting(web):
                for v in range(web.size):
                    for purse in range(rule.greatest_purse(k) + 1):
                        told = plain_rules.advice(rule.word, web, k, v, purse)
                        found = rule.advice(web, k, v, purse)
                        self.assertEqual(found, told)
                        self.assertEqual(list(map(type, found)), list(map(type, told)))
                        seen[rule.word, told[0], len(told)] = True
        self.assertEqual(len(seen), 16)

    def test_what_advice_keeps(self):
        """[167]: whatever the other hand bids and whichever of its steps it takes."""
        for web, k in cases(12, (2, 3, 4)):
            for rule in fitting(web):
                row = plain_rules.numbers(rule.word, web, k)
                for v in range(web.size):
                    for purse in range(rule.greatest_purse(k) + 1):
                        told = rule.advice(web, k, v, purse)
                        if len(told) > 2:
                            self.assertEqual(told[0], 1 if purse >= row[v] else 2)
                            for owner in self.behind(rule.word, web, k, v, purse, told):
                                self.assertEqual(owner, told[0])

    def behind(self, word, web, k, v, purse, told):
        """Whose all states are that the other hand can bring about."""
        if word == "token":
            return self.behind_token(web, k, v, purse, told)
        hand, bid, step = told
        found = []
        row = plain_rules.numbers("hand", web, k) if word == "hand" else turn_rows(web, k)[1] if word == "turns" else None
        for other in range((k - purse if hand == 1 else purse) + 1):
            p, q = (bid, other) if hand == 1 else (other, bid)
            mark = 1 if word == "turns" else web.marks[v]
            gets = 1 if p > q or (p == q and mark == 1) else 2
            steps = [step] if gets == hand else (web.first[v] if gets == 1 else web.second[v])
            for w in steps:
                if word == "bank":
                    after, left = (purse - p, k - p) if gets == 1 else (purse, k - q)
                    found.append(1 if after >= plain_rules.numbers("bank", web, left)[w] else 2)
                else:
                    found.append(1 if (purse - p if gets == 1 else purse + q) >= row[w] else 2)
        return found

    def behind_token(self, web, k, v, h, told):
        hand, bid, takes, step = told
        row = plain_token.token_row(web, k)
        found = []
        for other in plain_token.bids(k, h, 3 - hand):
            one, two = ((bid, takes), other) if hand == 1 else (other, (bid, takes))
            gets, after = plain_token.behind(h, one, two)
            steps = [step] if gets == hand else (web.first[v] if gets == 1 else web.second[v])
            found += [1 if after >= row[w] else 2 for w in steps]
        return found

    def test_at_the_bound(self):
        begin = time.perf_counter()
        for rule in RULES:
            k = MOST[rule.word]
            web = Web.line(29, 2) if rule.word == "turns" else EVERY if rule.word == "bank" else Web.line(59, 2)
            row = rule.numbers(web, k)
            self.assertEqual(len(row), web.size)
            for purse in (0, rule.greatest_purse(k)):
                advice = rule.advice(web, k, 17, purse)
                self.assertEqual(rule.told(web, k, 17, purse), advice[0])
        self.assertLess(time.perf_counter() - begin, 120)

    def test_no_chips(self):
        for rule in RULES:
            self.assertEqual(rule.numbers(LINE, 0), plain_rules.numbers(rule.word, LINE, 0))
            self.assertEqual(rule.advice(LINE, 0, 2, 0), plain_rules.advice(rule.word, LINE, 0, 2, 0))
        self.assertEqual([TokenRule().told(LINE, 1, 1, h) for h in range(4)], [2, 1, 1, 1])

    def test_named(self):
        wrong = [(bad, "a") for bad in (None, 5, True, b"hand", ["hand"], HandRule())]
        self.each_fault(rule_named, ["hand"], [wrong + [(bad, "c") for bad in ("", "Hand", "hand ", "marks", "x" * 50000)]])

    def great(self, word):
        """Webs above the bounds of the rule."""
        if word == "turns":
            return [(Web.line(30), "f")]
        if word == "bank":
            return [(with_due(LINE, 3, ("less", 10 ** 6 + 1)), "f"), (with_due(LINE, 1, ("chips", 10 ** 6 + 1)), "f")]
        return []

    def test_refusals(self):
        for rule in RULES:
            uneven = [(UNEVEN, "b")] if rule.word in ("turns", "token") else []
            webs = NO_WEBS + uneven + self.great(rule.word)
            most = MOST[rule.word]
            chips = NO_INTEGERS + numbers(-1) + too_much(most + 1, 10 ** 50)
            self.each_fault(rule.numbers, [LINE, most], [webs, chips])
            # At a state where the first hand can claim, where the play is over, and at another one.
            for stand in (0, 3, 1):
                for call in (rule.told, rule.advice):
                    purses = NO_INTEGERS + numbers(-1, 10 ** 60)
                    self.each_fault(call, [LINE, most, stand, 0], [webs, chips, STANDS, purses])
                    self.refused(WrongNumber, call, LINE, 5, stand, rule.greatest_purse(5) + 1)
                    self.refused(WrongNumber, call, LINE, most + 1, stand, rule.greatest_purse(most + 1) + 1)
                    self.refused(TooMuch, call, LINE, most + 1, stand, rule.greatest_purse(most + 1))
                    call(LINE, 5, stand, rule.greatest_purse(5))
        self.refused(WrongWeb, TokenRule().told, UNEVEN, -1, 9, 9)
        self.refused(WrongKind, TurnsRule().advice, UNEVEN, True, 9, 9)


if __name__ == "__main__":
    unittest.main()
