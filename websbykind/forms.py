"""All forms of webs of few places, in order, and those that come of one another by a tie."""

from websbykind.alike import form
from websbykind.webs import must_be_web, pairs_of, with_tie, without_tie
from websbykind.whole import must_be_few, must_be_within

MOST_FORMED = 5


def all_forms(many):
    """All forms of webs of so many places, a rising list."""
    must_be_within(many, 1, MOST_FORMED)
    forms = [(many, ())]
    for pair in pairs_of(many):
        # A form without its last tie is a form itself: a turn that led that one to a lesser web
        # would lead the whole form to a lesser one, too. So no form is missed here.
        longer = [(many, web[1] + (pair,)) for web in forms]
        forms = forms + [web for web in longer if form(web) == web]
    return sorted(forms)


def form_number(web):
    """The number of the web's form among all forms of its places, from 0."""
    must_be_formed(web)
    return all_forms(web[0]).index(form(web))


def must_be_formed(web):
    """Refuse, with NoWeb or TooGreat, what is no web of few places."""
    must_be_web(web)
    must_be_few(web[0], MOST_FORMED)


def form_at(many, number):
    """The form that has the number among all forms of so many places."""
    forms = all_forms(many)
    must_be_within(number, 0, len(forms) - 1)
    return forms[number]


def with_more(web):
    """The forms that come of the web where one tie is put in, a rising list."""
    must_be_formed(web)
    many, ties = web
    return sorted({form(with_tie(web, pair)) for pair in pairs_of(many) if pair not in ties})


def with_fewer(web):
    """The forms that come of the web where one tie is taken out, a rising list."""
    must_be_formed(web)
    return sorted({form(without_tie(web, tie)) for tie in web[1]})
