"""Claims of what was done and read, and when (promise 38): their form, and a plain table held against them."""

from stillfiles.errors import Missing, StillError
from stillfiles.plain import ROW_DEEDS, is_deed
from stillfiles.tuples import is_of
from stillfiles.wholes import is_from
from stillfiles.worths import are_worths

# The place of each thing in a claim.
START = 0
END = 1
DEED = 2
TOLD = 3
ANSWERS = ("done", "refused", "lost")


def is_read(deed):
    return is_of(2, deed) and deed[0] == "read"


def are_rows(thing):
    return isinstance(thing, tuple) and all([are_worths(row) for row in thing])


def is_claim(thing):
    """Whether a thing is a claim by form, whatever stands in its deed behind the word."""
    if not is_of(4, thing):
        return False
    start, end, deed, told = thing
    if not (is_from(0, start) and is_from(0, end) and start < end):
        return False
    if is_read(deed):
        return are_rows(told)
    return is_deed(deed) and deed[0] in ROW_DEEDS and told in ANSWERS


def may_be_done(claim):
    return claim[TOLD] != "refused"


def must_be_done(claim):
    return claim[TOLD] != "refused" and claim[TOLD] != "lost"


def goes(plain, claim):
    """Does a claim's deed, or reads; tells whether a plain table doesn't refuse it, and reads just what was told."""
    deed, told = claim[DEED], claim[TOLD]
    try:
        if is_read(deed):
            # Python takes truths for numbers, so the same rows may be none.
            return told == plain.rows(where=deed[1]) and are_rows(told)
        plain.do(deed)
    except (StillError, Missing):
        return False
    return True


def are_in_time(claims):
    """Whether, in this order, none had ended when one ahead of it began."""
    latest = 0
    for claim in claims:
        if claim[END] <= latest:
            return False
        latest = max(latest, claim[START])
    return True
