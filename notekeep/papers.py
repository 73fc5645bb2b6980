"""Papers that show that every run of a plan keeps its notes, and the looker for them."""

from notekeep.duties import duties
from notekeep.solving import met, shows
from notekeep.sums import contrary


def papers_of(plan):
    papers = []
    for number, duty in enumerate(duties(plan)):
        told = met(rows_against(duty))
        if told[0] == "point":
            return ("open", number, told[1])
        papers.append(told[1])
    return ("kept", papers)


def lets_by(plan, papers):
    due = duties(plan)
    if len(papers) != len(due):
        return False
    return all([shows(rows_against(duty), paper) for duty, paper in zip(due, papers)])


# The rows of which a point is to be found, or weights, which are the duty's paper.
def rows_against(duty):
    return duty[4] + (contrary(duty[5]),)


# A point at which the duty is open, or None.
def open_at(duty):
    told = met(rows_against(duty))
    return told[1] if told[0] == "point" else None
