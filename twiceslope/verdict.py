"""The verdict: whether an equation has answers in finite terms, and of what kind they are."""

from twiceslope.checks import is_tuple_of
from twiceslope.forms import forms_hold, judge_forms
from twiceslope.points import check_equation
from twiceslope.slopes import judge_slopes, slopes_hold

NOTHING = "nothing"
# The verdicts of equations without 4-forms, each with the degree whose forms tell it.
FACES = (("four faces", 6), ("eight faces", 8), ("twenty faces", 12))
# The degrees whose certificates each verdict asks for, behind what bars answers as judge_slopes tells them.
DEGREES = {
    "square": (4,),
    "eight": (4,),
    "four faces": (4, 6),
    "eight faces": (4, 6, 8),
    "twenty faces": (4, 6, 8, 12),
    "nothing": (4, 6, 8, 12),
}
MEMBERS = {"eight": 8, "four faces": 24, "eight faces": 48, "twenty faces": 120}


def judge_verdict(r):
    """A certificate: a tuple that begins with the verdict."""
    check_equation(r)
    barred = judge_slopes(r)
    if barred[0] == "answer":
        return ("quotient", barred)
    told = (barred, judge_forms(r, 4))
    if told[1][0] == "forms":
        return (named_by(len(told[1][1])),) + told
    for name, m in FACES:
        told = told + (judge_forms(r, m),)
        if told[-1][0] == "forms":
            return (name,) + told
    return (NOTHING,) + told


def named_by(many):
    """The verdict of an equation with so many 4-forms and no answer whose slope over itself is a quotient."""
    return "square" if many == 1 else "eight"


def verdict(r):
    """The verdict of an equation."""
    return judge_verdict(r)[0]


def tells(thing, kind):
    """Whether any value looks like a certificate of a kind."""
    return isinstance(thing, tuple) and len(thing) > 0 and thing[0] == kind


def answer_told(r, thing):
    """Whether any value is an answer as a certificate."""
    return tells(thing, "answer") and slopes_hold(r, thing)


def barred_told(r, thing):
    """Whether any value is a point or a table that bars all answers as a certificate."""
    return not tells(thing, "answer") and slopes_hold(r, thing)


def forms_told(r, name, told):
    """Whether any values are the certificates for the degrees of a verdict, and of the kinds that it asks for."""
    degrees = DEGREES[name]
    if len(told) != len(degrees):
        return False
    last = len(degrees) - 1
    for k, m in enumerate(degrees):
        if tells(told[k], "forms") != (name != NOTHING and k == last):
            return False
        if not forms_hold(r, m, told[k]):
            return False
    return len(degrees) > 1 or named_by(len(told[0][1])) == name


def verdict_holds(r, thing):
    """Whether any value is a certificate as judge_verdict tells them."""
    check_equation(r)
    if is_tuple_of(thing, 2) and thing[0] == "quotient":
        return answer_told(r, thing[1])
    if not (isinstance(thing, tuple) and len(thing) > 1 and isinstance(thing[0], str) and thing[0] in DEGREES):
        return False
    return barred_told(r, thing[1]) and forms_told(r, thing[0], thing[2:])


def has_answers(r):
    """Whether an equation has an answer other than 0 in finite terms."""
    return verdict(r) != NOTHING


def exchanges(r):
    """How many exchanges of answers keep all quotients, if the verdict tells a number; None otherwise."""
    return MEMBERS.get(verdict(r))
