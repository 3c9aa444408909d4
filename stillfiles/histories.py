"""Papers of claims (promise 38): an order in which they can have been."""

from stillfiles.claims import are_in_time, goes, may_be_done
from stillfiles.historychecks import is_whole_choice
from stillfiles.plain import Plain


def history_paper(columns, claims):
    return paper_behind(Plain(columns), claims, ())


def paper_behind(plain, claims, paper):
    """A paper that begins with this one, of what a plain table has done and read; None where there is none."""
    if is_whole_choice(claims, paper):
        return paper
    many = len(plain)
    for number, claim in enumerate(claims):
        if number in paper or not may_be_done(claim) or not are_in_time([claims[k] for k in (*paper, number)]):
            continue
        if goes(plain, claim):
            longer = paper_behind(plain, claims, (*paper, number))
            if longer is not None:
                return longer
            # One plain table is enough for all orders, as it can go back.
            plain.do(("back", many))
    return None
