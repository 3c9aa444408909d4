"""Rows of lists, with their whole spans (promise 12)."""

from stillfiles.commits import data_entries
from stillfiles.spans import greatest_of, least_of


def list_row(file, entries):
    datas = data_entries(entries)
    spans = {}
    for entry in datas:
        for span in entry[7]:
            spans.setdefault(span[0], []).append(span)
    whole = [whole_span(number, spans[number], lacking(number, datas)) for number in sorted(spans)]
    return (file, len(datas), len(entries) - len(datas), tuple(whole))


def lacking(number, datas):
    """How many data entries have no span of this column."""
    return len([entry for entry in datas if number not in [span[0] for span in entry[7]]])


def whole_span(number, spans, lack):
    least = least_of([span[1] for span in spans])
    greatest = greatest_of([span[2] for span in spans])
    return (number, least, greatest, sum([span[3] for span in spans]), lack)
