"""The checker of papers of claims (promise 38), whoever wrote them."""

from stillfiles.claims import are_in_time, goes, may_be_done, must_be_done
from stillfiles.plain import Plain
from stillfiles.wholes import all_unlike, is_within


def history_holds(columns, claims, thing):
    if not are_numbers(claims, thing) or not is_whole_choice(claims, thing):
        return False
    if not are_in_time([claims[number] for number in thing]):
        return False
    plain = Plain(columns)
    for number in thing:
        if not goes(plain, claims[number]):
            return False
    return True


def are_numbers(claims, thing):
    """Whether a thing is a tuple of numbers of claims, unlike."""
    if not isinstance(thing, tuple) or not all([is_within(0, len(claims) - 1, number) for number in thing]):
        return False
    return all_unlike(thing)


def is_whole_choice(claims, numbers):
    """Whether these are numbers of all claims that must be done, and of no other ones than may be."""
    chosen = {number: True for number in numbers}
    for number, claim in enumerate(claims):
        if not (may_be_done(claim) if number in chosen else not must_be_done(claim)):
            return False
    return True
