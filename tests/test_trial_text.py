"""[169] and [170]: trials, questions behind deeds, and the texts of desks."""

import unittest

from pursewebs.desk import Desk
from pursewebs.desktext import desk_from_text, desk_written
from pursewebs.errors import TooMuch, WrongDeed, WrongKind, WrongNumber, WrongText
from pursewebs.rules import BankRule, HandRule, TokenRule, TurnsRule
from pursewebs.trial import Trial, what_if
from pursewebs.web import Web
from tests import plain_rules
from tests.refusals import NO_LISTS, NO_TEXTS, Refusals
from tests.test_desk import GREAT, LINE, UNEVEN, begun, do, shown

TEXT = "desk hand\nweb 3\n0 1 c0 end\n1 1 - ; 0 2 ; 0 2\n2 1 - end\nplay 3 1 2\nmove 2 1 0\nclaim\n"
TOKEN = "desk token\nweb 3\n0 1 c0 end\n1 1 - ; 0 2 ; 0 2\n2 1 - end\nplay 3 1 7\n"
NO_DESKS = [(bad, "a") for bad in (None, 5, True, "desk", [], LINE, Desk)]
QUESTIONS = ("numbers", "number", "whose", "advice", "slips", "paper", "table", "steps_left")


class Boom(Exception):
    pass


class Same(Refusals):
    def same(self, desk, before):
        after = shown(desk)
        self.assertTrue(after[0] == before[0])
        self.assertEqual(after[1:], before[1:])


def with_args(deed):
    """A deed of a model as a deed of a desk."""
    name, *args = deed
    if name == "set_rule":
        args = [{"hand": HandRule(), "turns": TurnsRule(), "token": TokenRule(), "bank": BankRule()}[args[0]]]
    return [name, *args]


class Trials(Same):
    def test_the_desk_is_as_it_was(self):
        for desk, model, chance in begun(10):
            for _ in range(4):
                do(desk, deed := model.deeds(chance))
                do(model, deed)
            before = shown(desk)
            with Trial(desk) as tried:
                self.assertIs(tried, desk)
                for _ in range(5):
                    do(desk, deed := model.deeds(chance))
                    do(model, deed)
                changed = shown(desk)
                with Trial(desk):
                    while desk.log:
                        desk.back()
                self.same(desk, changed)
            self.same(desk, before)
            while desk.log:
                desk.back()

    def test_errors_end_a_trial_too(self):
        desk = Desk(LINE, 3, 2, 2)
        desk.bid(0, 0, 1)
        before = shown(desk)
        with self.assertRaises(Boom):
            with Trial(desk) as tried:
                tried.bid(1, 1, 0)
                tried.claim()
                raise Boom
        self.same(desk, before)
        with self.assertRaises(WrongDeed):
            with Trial(desk):
                desk.chips_in(2, 2)
                desk.claim()
        self.same(desk, before)
        self.assertEqual((desk.back(), desk.stand), ("bid 0 0 1", 2))

    def test_one_trial_for_several_blocks(self):
        desk = Desk(LINE, 3, 2, 2)
        trial = Trial(desk)
        before = shown(desk)
        for _ in range(2):
            with trial:
                desk.bid(0, 0, 1)
                inner = shown(desk)
                with trial:
                    desk.set_rule(TokenRule())
                    with trial as tried:
                        tried.place(0, 0)
                    self.assertEqual((desk.stand, desk.rule.word, len(desk.log)), (1, "token", 2))
                self.same(desk, inner)
            self.same(desk, before)
        desk.bid(0, 0, 1)
        before = shown(desk)
        with trial:
            desk.back()
        self.same(desk, before)

    def test_the_desk_goes_on(self):
        desk = Desk(LINE, 3, 2, 2)
        desk.place(1, 2)
        with Trial(desk):
            desk.back()
            desk.bid(0, 0, 1)
        desk.bid(0, 0, 0)
        desk.claim()
        self.assertEqual(desk.log, ("place 1 2", "bid 0 0 0", "claim"))
        self.assertEqual([desk.back() for _ in range(3)], ["claim", "bid 0 0 0", "place 1 2"])
        self.assertEqual((desk.stand, desk.played().steps), (2, 0))

    def test_refusals(self):
        self.each_fault(Trial, [Desk(LINE, 3, 2, 2)], [NO_DESKS])


def asked(desk):
    """what_if of one desk."""
    return lambda deeds, question: what_if(desk, deeds, question)


class WhatIf(Same):
    def test_answers(self):
        for desk, model, chance in begun(10):
            for _ in range(3):
                do(desk, deed := model.deeds(chance))
                do(model, deed)
            other = desk.copy()
            before = shown(desk)
            deeds = []
            for _ in range(4):
                deed = model.deeds(chance)
                do(model, deed)
                deeds.append(with_args(deed))
            for deed in deeds:
                getattr(other, deed[0])(*deed[1:])
            for question in QUESTIONS:
                if model.word == "hand" or question in ("numbers", "number", "whose", "advice"):
                    told = getattr(other, question)()
                    self.assertEqual(what_if(desk, tuple(map(tuple, deeds)), question), told)
                else:
                    self.refused(WrongDeed, asked(desk), deeds, question)
                self.same(desk, before)

    def test_no_deeds(self):
        desk = Desk(LINE, 3, 2, 2)
        self.assertEqual([what_if(desk, [], "number"), what_if(desk, (), "whose")], [desk.number(), desk.whose()])

    def test_deeds_that_are_refused(self):
        desk = Desk(LINE, 3, 2, 2)
        desk.bid(0, 0, 1)
        before = shown(desk)
        for deeds, error in (([["chips_in", 1, 1], ["bid", 9, 0, 0]], WrongNumber), ([["back"], ["back"]], WrongDeed),
                             ([["chips_in", 5000, 1]], TooMuch), ([["back"], ["set_rule", None]], WrongKind),
                             ([["place", 0, 0], ["claim"], ["bid", 0, 0, 0]], WrongDeed), ([["place", 0, 0], ["claim"], ["claim"]], WrongDeed),
                              ([["bid", 0, True, 0]], WrongKind)):
            self.refused(error, asked(desk), deeds, "numbers")
            self.same(desk, before)
        self.refused(TooMuch, asked(desk), [["set_rule", BankRule()], ["chips_in", 60, 2]], "advice")
        self.same(desk, before)

    def test_refusals(self):
        desk = Desk(LINE, 3, 2, 2)
        names = [[], ["played"], ["bids"], [None], [5], [["back"]], ["numbers"], ["copy"], ["changed"], [b"back"], [""]]
        counts = [["bid", 0, 0], ["bid", 0, 0, 1, 1], ["claim", 1], ["back", 1], ["chips_in", 1], ["chips_out", 1, 1, 1],
                  ["set_due", 1], ["set_mark", 1], ["set_rule"], ["set_rule", 1, 2], ["place", 1], ["place"]]
        # All are seen before the first deed, which would be refused.
        wrong = [([["claim"], bad], "a") for bad in names + counts] + [([["claim"], bad], "a") for bad, _ in NO_LISTS]
        questions = [(bad, "a") for bad in (None, 5, True, "played", "log", "", "Numbers", ["numbers"], b"whose", "back")]
        self.each_fault(asked(desk), [[["bid", 0, 0, 1], ("back",)], "slips"], [NO_LISTS + wrong, questions])
        for bad, _ in NO_DESKS:
            self.refused(WrongKind, what_if, bad, [["claim"]], "numbers")
        self.refused(WrongKind, asked(desk), [["claim"]], "over")
        self.assertEqual(desk.log, ())


class Texts(Same):
    def both_ways(self, desk):
        text = desk_written(desk)
        self.assertEqual(text, plain_rules.desk_text(desk))
        again = desk_from_text(text)
        told = shown(desk)
        self.same(again, told[:5] + ((),) + told[6:])
        self.assertEqual(desk_written(again), text)
        return again

    def test_desks_of_all_kinds(self):
        for desk, model, chance in begun(10):
            for _ in range(8):
                do(desk, deed := model.deeds(chance))
                do(model, deed)
                before = shown(desk)
                again = self.both_ways(desk)
                self.same(desk, before)
                self.assertEqual(again.numbers(), desk.numbers())
                self.assertEqual(again.advice(), desk.advice())
                self.refused(WrongDeed, again.back)

    def test_it_goes_on(self):
        desk = desk_from_text(TEXT)
        self.assertEqual((desk.over, desk.winner, desk.log, desk.slips()), (True, 1, (), ()))
        desk.place(1, 0)
        desk.bid(0, 3, 2)
        self.assertEqual((desk.winner, desk.log), (2, ("place 1 0", "bid 0 3 2")))
        self.assertEqual([desk.back(), desk.back()], ["bid 0 3 2", "place 1 0"])
        self.assertEqual((desk.over, desk.played().moves, desk_written(desk)), (True, ((2, 1, 0),), TEXT))
        early = desk_from_text(TEXT[:-6])
        early.claim()
        self.assertEqual((early.log, desk_written(early), early.back()), (("claim",), TEXT, "claim"))
        self.assertEqual((early.changed().played().moves, early.copy().played().moves), ((), ((2, 1, 0),)))
        self.assertEqual(desk_from_text(TOKEN).advice(), plain_rules.advice("token", Web.line(2), 3, 1, 7))

    def test_long_texts(self):
        ring = Web.ring(1)
        desk = Desk(ring, 99, 0, 99)
        begin = len(desk_written(desk))
        dear = (40000 - begin) % 11
        for number in range((40000 - begin) // 11):
            desk.bid(10 if number < dear else 0, 0, 0)
        self.assertEqual(len(desk_written(desk)), 40000)
        self.both_ways(desk)
        desk.back()
        desk.bid(10, 0, 0)
        self.assertEqual(len(desk_written(desk)), 40001)
        self.refused(TooMuch, desk_from_text, desk_written(desk))
        self.refused(TooMuch, desk_from_text, "x" * 40001)
        self.refused(WrongText, desk_from_text, "x" * 40000)

    def test_great_desks(self):
        web = Web([[v for v in range(60)] for _ in range(60)], [[0]] * 60, [1, 2] * 30, [("less", GREAT)] * 60)
        for rule in (HandRule(), BankRule()):
            self.both_ways(Desk(web, 5000, 59, 5000, rule=rule))
        self.both_ways(Desk(Web.line(59), 5000, 59, 10001, rule=TokenRule()))

    def test_spoilt_lines(self):
        for text in (TEXT, TOKEN):
            lines = text.split("\n")[:-1]
            for at, line in enumerate(lines):
                words = line.split(" ")
                spoilt = ["", line + " ", " " + line, line.replace(" ", "  ", 1), line.upper(), line + " 1", line[:-1],
                          " ".join(words[:-1]), line + "\n" + line, "x" + line, line.replace(" ", " 0", 1), line + "\r",
                          " ".join([*words[:-1], "9" * 5000]), line.replace(" ", " -", 1), line.replace(" ", " +", 1)]
                for bad in spoilt:
                    # Under the rule of hands a web need not be even.
                    if bad != line and (text, bad) != (TEXT, "1 1 - ; 0 2 ; 0"):
                        changed = "\n".join(lines[:at] + [bad] + lines[at + 1:] + [""])
                        with self.subTest(text=changed):
                            self.refused(WrongText, desk_from_text, changed)
                if at < 6:
                    self.refused(WrongText, desk_from_text, "\n".join(lines[:at] + lines[at + 1:] + [""]))
            for bad in (text[:-1], text + "\n", "\n" + text, text + "claim\n", text.replace("\n", "\r\n"), "", "\n", "\n\n",
                        "desk hand\n", "desk hand", "desk hand\nweb 1\n", text + text):
                self.refused(WrongText, desk_from_text, bad)

    def test_no_desk_has_it(self):
        swaps = [(TEXT, "desk hand", "desk none"), (TEXT, "desk hand", "desk turns"), (TEXT, "desk hand", "desk "),
                 (TEXT, "play 3 1 2", "play 5001 1 2"), (TEXT, "play 3 1 2", "play 3 3 2"), (TEXT, "play 3 1 2", "play 1 1 2"),
                 (TEXT, "move 2 1 0", "move 2 1 1"), (TEXT, "move 2 1 0", "move 1 1 2"), (TEXT, "c0", "c3"), (TEXT, "c0", "d0"),
                 (TOKEN, "play 3 1 7", "play 3 1 8"), (TOKEN, "play 3 1 7", "play 5001 1 7"), (TOKEN, "play 3 1 7", "play 3 3 7"),
                 (TOKEN, "desk token", "desk bank"), (TOKEN, "desk token", "desk turns"), (TOKEN, "desk token", "desk Token"),
                 (TOKEN, "; 0 2 ; 0 2", "; 0 2 ; 0"), (TOKEN, "web 3", "web 2"), (TOKEN, "web 3", "web 4"), (TOKEN, "web 3", "web 61"),
                 (TOKEN, "2 1 - end", "2 1 - end\n3 1 - end"), (TOKEN, "web 3", f"web {10 ** 30}"), (TOKEN, "web 3", "web 0")]
        for text, one, two in swaps:
            self.assertIn(one, text)
            with self.subTest(one=one, two=two):
                self.refused(WrongText, desk_from_text, text.replace(one, two))
        uneven = desk_written(Desk(UNEVEN, 3, 1, 2, rule=BankRule()))
        self.both_ways(desk_from_text(uneven))
        for word in ("turns", "token"):
            self.refused(WrongText, desk_from_text, uneven.replace("bank", word))

    def test_refusals(self):
        self.each_fault(desk_from_text, [TEXT], [NO_TEXTS + [(TEXT + "\n", "h"), ("d" * 40001, "f")]])
        self.each_fault(desk_written, [Desk(LINE, 3, 2, 2)], [NO_DESKS])


if __name__ == "__main__":
    unittest.main()
