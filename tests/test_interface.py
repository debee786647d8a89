"""The interface: each name stands in its module, defined there, with the arguments that the document tells."""

import importlib
import inspect
import unittest

from pursewebs.bankplans import BankPlan
from pursewebs.callplans import CallFirst, CallSecond
from pursewebs.errors import PurseError
from pursewebs.plans import FirstPlan, Plan, SecondPlan
from pursewebs.rules import BankRule, HandRule, Rule, TokenRule, TurnsRule
from pursewebs.tokenpaper import TokenPlan
from pursewebs.web import Web
from pursewebs.worthplans import HoldPlan, WorthPlan

CALLS = """
whole: is_integer(thing) as_row(thing,size) as_stands(thing,size)
dues: due_number(due,k) due_slope(due,m) due_word(due) due_from_word(word)
webtext: written(web)
builders: chain(u,mark=1) with_marks(web,mark) with_due(web,stand,due) ended(web,stand,due) renamed(web,order)
builders: cut_down(web,stands)
spread: first_reach(web,stand) spread(web,stand) kept_off(web)
halves: half(mark,x,y)
prices: low(web,row,stand) high(web,row,stand) price(web,k,row,stand) next_row(web,k,row)
bids: first_bid(web,k,row,stand,purse) second_bid(web,k,row,stand,purse)
serving: outcome(web,stand,purse,p,q) first_serving(web,k,row,stand,purse) second_serving(web,k,row,stand,purse)
serving: reply(web,k,row,stand,purse,p)
rises: rise(web,k,row) chip_rows(web)
rounds: rounds(web,k) round_count(web,k) number_row(web,k)
listing: won_states(web,k,steps=None,*,order='sealed') level_of(web,k,stand,purse)
keeping: keep_row(web,k) number_of(web,k,stand) whose(web,k,stand,purse)
lower: lower_faults(web,k,row) joined_lower(web,k,rows)
upper: upper_faults(web,k,row,ranks)
falling: falling(web,k,row) is_exact(web,k,row)
paper: paper_written(paper)
state: next_state(web,k,stand,purse,p,q,step) can_claim(web,k,stand,purse) settled(web,k,stand,purse)
play: play_on(play,first,second,most)
playtext: play_written(play) play_from_text(web,written)
slips: slips(play) slip_kind(web,k,stand,purse,hand,bid,step)
duels: duel(web,k,stand,purse) foreign(web,k,stand,purse,side,bids,picks)
words: word(web,stand,many) ones(web,stand,start,many)
against: purse_against(web,stand,other,most)
slopes: slope_price_twice(web,m,slopes,stand) pass_faults(web,k,row,ranks,m,slopes)
table: table_written(table)
maketable: start_bound(web)
far: far_paper(table,k) far_plans(table,k) far_against(table,stand,other)
compare: reach_off(table,stand) ordered(table,v,w) ever_above(table,v,w)
coins: part(web,stand) mean(web,shares,stand) throw_rows(web,throws) coin_listing(web,throws) chance(web,stand,throws)
sharerows: share_row(web) share_lower(web,shares)
sharepaper: share_rest(web,shares) share_exact(web,shares)
solving: used_steps(web,shares) determinant(web,pairs) solved(web,pairs)
rowwebs: row_number(n,mark,k,stand)
speed: speed_bound(web,throws) gap_bound(web)
marks: mark_range(web,k) marks_matter(web,k)
turns: lamp_web(web) turn_rows(web,k)
tokenrows: token_half(x,y) token_price(web,k,row,stand) token_due(due,k) token_rounds(web,k) token_row(web,k)
tokenlisting: token_won(web,k,steps=None)
tokenbids: token_first(web,k,row,stand,half_chips) token_second(web,k,row,stand,half_chips)
tokenbids: token_serves(web,k,row,stand,half_chips,side,bid,takes)
tokenpaper: token_lower(web,k,row) token_upper(web,k,row,ranks) token_falling(web,k,row)
tokentable: token_table(web) token_told(web,found,k)
bankrows: bank_due(due) bank_price(web,rows,row,b,stand) bank_rounds(web,rows) bank_rows(web,most)
banklisting: bank_won(web,most_a,most_b,steps=None)
bankpaper: bank_lower(web,table) bank_upper(web,table,ranks) bank_falling(web,table)
bankplans: bank_first(web,table,stand,a,b) bank_second(web,table,stand,a,b) bank_serves(web,table,stand,a,b,side,bid)
golden: whole_root(number) golden_number(mark,b,stand) repeats_until(start,period,rise)
bankmeet: hand_against(web,stand,b,most) bank_against(web,stand,b) dearer(web,stand,b,most)
visits: round_row(web,k,calls,row) visit_rows(web,k,calls) visits_needed(web,k,calls,times)
forever: forever_row(web,k,calls) forever_rows(web,calls) forever_rise(web,k,calls,row)
callranks: call_ranks(web,k,calls,row) call_counts(web,k,calls,row)
callpaper: half_above(web,k,calls,row,ranks) half_below(web,k,calls,row,counts)
callplans: call_duel(web,k,calls,stand,purse,most)
calllisting: call_won(web,k,calls,times=None)
settle: settle_row(web,k,calls)
joins: joined(web,*links) offsets(web,*links) copies(web,end,entry,times) layers(web,calls,times)
boards: both_boards(web,other,mark,goal)
cutting: cut_at(web,k,stand) cut_change(web,k,stand,change) parts(web,k,cut)
worths: level_web(web,worths,level) level_rows(web,k,worths) value(web,k,worths,stand,purse) stairs(web,k,worths,stand)
worths: value_listing(web,k,worths)
worthplans: worth_duel(web,k,worths,stand,purse) level_tables(web,worths) far_value(tables,k,stand,purse)
rules: rule_named(word)
trial: what_if(desk,deeds,question)
show: number_table(web,k) share_table(web) play_table(play)
advice: reasons(web,k,stand,purse) hint(web,k,stand,purse,hand,bid)
desktext: desk_written(desk) desk_from_text(written)
"""
METHODS = """
share.Share(top,bottom=1): halved() compared(other) __add__(other) __radd__(other) __sub__(other) __rsub__(other)
share.Share(top,bottom=1): __mul__(other) __rmul__(other) __eq__(other) __str__()
web.Web(first,second,marks,dues): __eq__(other) __invert__() from_text(written) line(n,mark=1) ring(n,mark=1)
verdict.Verdict(faults): __bool__() __iter__() __eq__(other)
paper.Paper(web,k,row,ranks): __eq__(other) exact(web,k) below() above() judged() number(stand) from_text(web,written)
plans.Plan(web,k,row): __call__(stand,purse) spare(stand,purse)
plans.FirstPlan(web,k,row,ranks): __call__(stand,purse) claims(stand,purse) falls(stand,purse) steps_left(stand,purse)
plans.SecondPlan(web,k,row): __call__(stand,purse)
play.Play(web,k,stand,purse): __iter__() __eq__(other) move(p,q,step) claim() back() copy()
table.Table(web,start,period,slopes,rows,ranks): least(web) __getitem__(at) told_ranks(k) number(stand,k) share(stand)
table.Table(web,start,period,slopes,rows,ranks): judged() from_text(web,written) __eq__(other)
tokenpaper.TokenPlan(web,k,row,ranks): __call__(stand,half_chips) spare(stand,half_chips) claims(stand,half_chips)
tokenpaper.TokenPlan(web,k,row,ranks): falls(stand,half_chips)
bankplans.BankPlan(web,table,ranks): __call__(stand,a,b) claims(stand,a,b) falls(stand,a,b)
callpaper.CallPaper(web,k,calls,row,ranks,counts): __eq__(other) of(web,k,calls) judged()
callplans.CallFirst(paper): __call__(stand,purse) due_by(times) falls(stand,purse)
callplans.CallSecond(paper): __call__(stand,purse) visits_at_most() falls(stand,purse)
calltable.CallTable(web,calls,start,period,slopes,rows,ranks,counts): __eq__(other) least(web,calls) __getitem__(at)
calltable.CallTable(web,calls,start,period,slopes,rows,ranks,counts): told(k) share(stand) judged()
worthplans.WorthPlan(web,k,worths,level): __init__(web,k,worths,level)
worthplans.HoldPlan(web,k,worths,level): __init__(web,k,worths,level)
rules.Rule(): __eq__(other) numbers(web,k) advice(web,k,stand,purse)
rules.HandRule(): fits(web) greatest_purse(k) numbers(web,k) told(web,k,stand,purse) advice(web,k,stand,purse)
rules.TurnsRule(): fits(web) greatest_purse(k) numbers(web,k) told(web,k,stand,purse) advice(web,k,stand,purse)
rules.TokenRule(): fits(web) greatest_purse(k) numbers(web,k) told(web,k,stand,purse) advice(web,k,stand,purse)
rules.BankRule(): fits(web) greatest_purse(k) numbers(web,k) told(web,k,stand,purse) advice(web,k,stand,purse)
desk.Desk(web,k,stand,purse,*,rule=None): bid(p,q,step) claim() chips_in(count,hand) chips_out(count,hand)
desk.Desk(web,k,stand,purse,*,rule=None): set_due(stand,due) set_mark(stand,mark) set_rule(rule) place(stand,purse)
desk.Desk(web,k,stand,purse,*,rule=None): back() numbers() whose() advice() number() slips() played() paper() table()
desk.Desk(web,k,stand,purse,*,rule=None): steps_left() changed(**changes) copy()
trial.Trial(desk): __enter__() __exit__(kind,value,trace)
"""
PROPERTIES = """
share.Share: top bottom
web.Web: size first second marks dues ends moving greatest_due even
verdict.Verdict: faults
paper.Paper: web chips row ranks
plans.Plan: web chips row
plans.FirstPlan: ranks
play.Play: web chips stand purse steps moves claimed over winner
table.Table: web start period slopes rows ranks
tokenpaper.TokenPlan: web chips row ranks
bankplans.BankPlan: web rows ranks
callpaper.CallPaper: web chips calls row ranks counts
calltable.CallTable: web calls start period slopes rows ranks counts
rules.Rule: word
rules.HandRule: word
rules.TurnsRule: word
rules.TokenRule: word
rules.BankRule: word
desk.Desk: web chips stand purse rule log over winner
"""


def lines(text):
    for line in text.strip().split("\n"):
        name, rest = line.split(": ")
        yield name, rest.split(" ")


def parameters(call):
    return str(inspect.signature(call)).replace(" ", "")


def own(module, name):
    return vars(importlib.import_module(f"pursewebs.{module}"))[name]


class Interface(unittest.TestCase):
    def test_functions(self):
        for module, calls in lines(CALLS):
            for call in calls:
                name, _, rest = call.partition("(")
                found = own(module, name)
                self.assertTrue(inspect.isfunction(found), name)
                self.assertEqual((found.__module__, parameters(found)), (f"pursewebs.{module}", f"({rest}"), name)

    def test_classes_and_methods(self):
        for begin, methods in lines(METHODS):
            path, _, rest = begin.partition("(")
            module, name = path.split(".")
            made = own(module, name)
            self.assertEqual((made.__module__, parameters(made)), (f"pursewebs.{module}", f"({rest}"), name)
            for method in methods:
                word, _, rest = method.partition("(")
                self.assertIn(word, vars(made), name)
                told = parameters(getattr(made, word))
                if inspect.isfunction(getattr(made, word)):
                    told = told.replace("(self,", "(").replace("(self)", "()")
                self.assertEqual(told, f"({rest}", (name, word))

    def test_properties(self):
        for path, names in lines(PROPERTIES):
            made = own(*path.split("."))
            for name in names:
                self.assertIsInstance(vars(made)[name], property, (path, name))

    def test_what_is_below_what(self):
        for made in (FirstPlan, SecondPlan, TokenPlan, CallFirst, CallSecond):
            self.assertTrue(issubclass(made, Plan))
        self.assertTrue(issubclass(WorthPlan, FirstPlan) and issubclass(HoldPlan, SecondPlan))
        self.assertFalse(issubclass(BankPlan, Plan))
        for made in (HandRule, TurnsRule, TokenRule, BankRule):
            self.assertEqual(made.__bases__, (Rule,))
        errors = [own("errors", name) for name in
                  ("WrongKind", "WrongNumber", "WrongWeb", "WrongText", "WrongDeed", "TooMuch")]
        for one in errors:
            self.assertEqual([issubclass(one, other) for other in errors], [one is other for other in errors])
            self.assertTrue(issubclass(one, PurseError))
        self.assertTrue(issubclass(PurseError, Exception))

    def test_by_position(self):
        self.assertTrue(Web.line(2, 2) == own("builders", "with_marks")(Web.line(2), 2))


if __name__ == "__main__":
    unittest.main()
