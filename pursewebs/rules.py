"""Rules: how ties are settled, and to whom bids are paid."""

from pursewebs.bankpaper import fallen_table
from pursewebs.bankplans import BankPlan, bank_second, reaches
from pursewebs.bankrows import bank_due_of, bank_rows
from pursewebs.checks import check_stand
from pursewebs.dues import due_at
from pursewebs.errors import WrongDeed, WrongKind, WrongNumber, WrongWeb
from pursewebs.reading import check_text
from pursewebs.rounds import number_row
from pursewebs.rowadvice import settled_advice, told_deed
from pursewebs.slips import owner
from pursewebs.tokenbids import token_second
from pursewebs.tokenpaper import TokenPlan, token_ranks
from pursewebs.tokenrows import token_dues_at, token_row
from pursewebs.turns import turn_rows, web_with_lamp
from pursewebs.web import check_web
from pursewebs.whole import check_least, check_range, check_whole


class Rule:
    """What all rules are."""

    @property
    def word(self):
        return ""

    def __eq__(self, other):
        return isinstance(other, Rule) and self.word == other.word

    def numbers(self, web, k):
        raise WrongDeed("this rule is none of the four")

    def advice(self, web, k, stand, purse):
        raise WrongDeed("this rule is none of the four")


class HandRule(Rule):
    """Bids are paid to the other hand, and ties go by marks."""

    @property
    def word(self):
        return "hand"

    def fits(self, web):
        """True: this rule is for all webs."""
        return fits_each(web)

    def greatest_purse(self, k):
        """The greatest purse of a state."""
        return checked_chips(k)

    def numbers(self, web, k):
        """The number row at k."""
        return number_row(web, k)

    def told(self, web, k, stand, purse):
        """The hand whose the state is."""
        check_rule_state(self, web, k, stand, purse)
        return owner(self.numbers(web, k), stand, purse)

    def advice(self, web, k, stand, purse):
        """What is told at the state: a claim, that the play is over, or a hand, its bid and its step."""
        check_rule_state(self, web, k, stand, purse)
        row = self.numbers(web, k)
        settled = settled_advice(web, stand, purse, due_at(web.dues[stand], k))
        return told_deed(web, k, row, stand, purse) if settled is None else settled


class TurnsRule(Rule):
    """Bids are paid to the other hand, and ties go by a lamp, which shows 1 now."""

    @property
    def word(self):
        return "turns"

    def fits(self, web):
        """True if the web is even."""
        return fits_even(web)

    def greatest_purse(self, k):
        """The greatest purse of a state."""
        return checked_chips(k)

    def numbers(self, web, k):
        """The numbers at k while the lamp shows 1."""
        return turn_rows(web, k)[0]

    def told(self, web, k, stand, purse):
        """The hand whose the state is."""
        check_rule_state(self, web, k, stand, purse)
        return owner(self.numbers(web, k), stand, purse)

    def advice(self, web, k, stand, purse):
        """What is told at the state: a claim, that the play is over, or a hand, its bid and its step."""
        check_rule_state(self, web, k, stand, purse)
        one, two = turn_rows(web, k)
        settled = settled_advice(web, stand, purse, due_at(web.dues[stand], k))
        if settled is not None:
            return settled
        row = [number for pair in zip(one, two) for number in pair]
        hand, bid, step = told_deed(web_with_lamp(web), k, row, 2 * stand, purse)
        return (hand, bid, step // 2)


class TokenRule(Rule):
    """Bids are paid to the other hand, and ties go by a token; purses are counted in half chips."""

    @property
    def word(self):
        return "token"

    def fits(self, web):
        """True if the web is even."""
        return fits_even(web)

    def greatest_purse(self, k):
        """The greatest purse of a state."""
        return 2 * checked_chips(k) + 1

    def numbers(self, web, k):
        """The token row at k."""
        return token_row(web, k)

    def told(self, web, k, stand, purse):
        """The hand whose the state is."""
        check_rule_state(self, web, k, stand, purse)
        return owner(self.numbers(web, k), stand, purse)

    def advice(self, web, k, stand, purse):
        """What is told at the state: a claim, that the play is over, or a hand, its bid, its taking and its step."""
        check_rule_state(self, web, k, stand, purse)
        row = self.numbers(web, k)
        settled = settled_advice(web, stand, purse, token_dues_at(web, k)[stand])
        if settled is not None:
            return settled
        hand = owner(row, stand, purse)
        if hand == 1:
            ranks, _ = token_ranks(web, k, row)
            bid, takes, step = TokenPlan(web, k, row, ranks)(stand, purse)
        else:
            bid, takes, step = token_second(web, k, row, stand, purse)
        return (hand, bid, takes, step)


class BankRule(Rule):
    """Bids are paid to a bank; k chips are in both purses together."""

    @property
    def word(self):
        return "bank"

    def fits(self, web):
        """True: this rule is for all webs."""
        return fits_each(web)

    def greatest_purse(self, k):
        """The greatest purse of a state."""
        return checked_chips(k)

    def numbers(self, web, k):
        """The least purses that reach the bank numbers against all other chips."""
        return bank_numbers(bank_rows(web, k), k)

    def told(self, web, k, stand, purse):
        """The hand whose the state is."""
        check_rule_state(self, web, k, stand, purse)
        return owner(self.numbers(web, k), stand, purse)

    def advice(self, web, k, stand, purse):
        """What is told at the state: a claim, that the play is over, or a hand, its bid and its step."""
        check_rule_state(self, web, k, stand, purse)
        table = bank_rows(web, k)[:k - purse + 1]
        settled = settled_advice(web, stand, purse, bank_due_of(web.dues[stand]))
        if settled is not None:
            return settled
        if reaches(purse, table[k - purse][stand]):
            bid, step = BankPlan(web, table, fallen_table(web, table))(stand, purse, k - purse)
            return (1, bid, step)
        bid, step = bank_second(web, table, stand, purse, k - purse)
        return (2, bid, step)


def fits_each(web):
    """True for every web."""
    check_web(web)
    return True


def fits_even(web):
    """True if the web is even."""
    check_web(web)
    return web.even


def checked_chips(k):
    """A number of chips of any size."""
    check_whole(k)
    check_least(k, 0)
    return k


def check_rule_state(rule, web, k, stand, purse):
    """Raise what is wrong with a web, a k and a state under one of the four rules."""
    check_web(web)
    check_whole(k, stand, purse)
    check_fits(rule, web)
    check_stand(web, stand)
    check_range(purse, 0, rule.greatest_purse(k))


def check_fits(rule, web):
    """Raise WrongWeb if the rule is not for the web."""
    if not rule.fits(web):
        raise WrongWeb("the rule is for even webs")


def check_rule(thing):
    """Raise WrongKind if thing is none of the four rules."""
    if not isinstance(thing, Rule) or thing.word == "":
        raise WrongKind("one of the four rules is asked for")


def bank_numbers(table, k):
    """For each stand the least purse that reaches its bank number against the rest of the k chips, k+1 if none does."""
    found = []
    for stand in range(len(table[0])):
        purses = [purse for purse in range(k + 1) if reaches(purse, table[k - purse][stand])]
        found.append(min(purses, default=k + 1))
    return tuple(found)


def rule_named(word):
    """The rule with that word."""
    check_text(word)
    for rule in (HandRule(), TurnsRule(), TokenRule(), BankRule()):
        if rule.word == word:
            return rule
    raise WrongNumber("there is no rule with this word")
