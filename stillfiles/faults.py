"""Faults of a head's file in a place (promise 39)."""

from stillfiles.commits import data_entries
from stillfiles.contents import is_content
from stillfiles.filenames import LETTER_OF
from stillfiles.listing import list_row
from stillfiles.parts import part_of, way_fits
from stillfiles.shapes import is_row
from stillfiles.spans import spans_of


def faults_of(place, file):
    if not place.has(file):
        return (("lacks", file),)
    head = place.read(file)
    if not is_of_form(file, head) or head[0] != "head":
        return (("form", file),)
    search = Search(place, head)
    for commit in head[5]:
        look_at_commit(search, commit)
    return tuple(sorted(search.faults))


def is_of_form(file, content):
    """Whether a content, of anything, is one by form of a file's letter."""
    return is_content(content) and LETTER_OF[content[0]] == file[0]


class Search:
    """What was looked at in a place by one head, and the faults that were found."""

    def __init__(self, place, head):
        self.place = place
        self.head_read = head
        # As keys, so each stands there once.
        self.faults = {}
        # What is the same for each commit that comes to it: contents by files (None of what lacks or is of no form),
        # rows of lists by lists, and whether an entry is as its file, by (list, k).
        self.contents = {}
        self.listed = {}
        self.checked = {}

    def tell(self, fault):
        self.faults[fault] = True

    def content_of(self, file):
        if file not in self.contents:
            self.contents[file] = self.looked_at(file)
        return self.contents[file]

    def looked_at(self, file):
        if not self.place.has(file):
            self.tell(("lacks", file))
            return None
        content = self.place.read(file)
        if not is_of_form(file, content):
            self.tell(("form", file))
            return None
        return content

    def row_of(self, file, entries):
        if file not in self.listed:
            self.listed[file] = list_row(file, entries)
        return self.listed[file]

    def is_as_its_file(self, file, k, entry):
        if (file, k) not in self.checked:
            self.checked[(file, k)] = is_as_content(self.head_read, entry, self.content_of(entry[1]))
        return self.checked[(file, k)]


def look_at_commit(search, commit):
    lists = search.content_of(commit[5])
    if lists is None:
        return
    told = []
    for k, row in enumerate(lists[1]):
        content = search.content_of(row[0])
        if content is None:
            continue
        told.append((row[0], content[1]))
        if row != search.row_of(row[0], content[1]):
            search.tell(("row", commit[5], k))
    datas = look_at_datas(search, told)
    for file, entries in told:
        for k, entry in enumerate(entries):
            if not is_entry_so(search, commit, datas, file, k, entry):
                search.tell(("entry", file, k))


def look_at_datas(search, told):
    """The data files of a commit's entries, as keys."""
    datas = {}
    for _, entries in told:
        for entry in data_entries(entries):
            if entry[1] in datas:
                search.tell(("twice", entry[1]))
            datas[entry[1]] = True
    return datas


def is_entry_so(search, commit, datas, file, k, entry):
    """Whether entry k of a list is as it should be in a commit of these data files."""
    is_so = search.is_as_its_file(file, k, entry) and entry[2] <= commit[0]
    return is_so and (entry[0] != "marks" or are_places_so(search, datas, entry))


def are_places_so(search, datas, entry):
    """Whether marks are for one of these data files, for rows that it has."""
    if entry[3] not in datas:
        return False
    marks, data = search.content_of(entry[1]), search.content_of(entry[3])
    # Places rise, so none is greater than the last one.
    return marks is None or data is None or marks[2][-1] < len(data[4])


def is_as_content(head, entry, content):
    """Whether an entry is as its file's content and the head say; just as the head where the content is None."""
    if entry[0] == "data":
        return is_data_so(head, entry, content)
    if entry[0] == "marks":
        return content is None or (content[1], len(content[2])) == entry[3:]
    numbers = [column[0] for shape in head[2] for column in shape]
    return entry[3] in numbers and (content is None or content[1:] == entry[3:])


def is_data_so(head, entry, content):
    _, _, _, many, shape_number, rule_number, part, spans = entry
    if shape_number >= len(head[2]) or rule_number >= len(head[3]):
        return False
    shape, rule = head[2][shape_number], head[3][rule_number]
    if not is_rule_of(shape, rule):
        return False
    if content is None:
        return True
    if content[1:4] != (shape_number, rule_number, part) or len(content[4]) != many:
        return False
    return are_rows_so(shape, rule, part, content[4]) and spans == spans_of(shape, content[4])


def is_rule_of(shape, rule):
    """Whether a bound rule's columns are a shape's, and its ways fit them."""
    kinds = {column[0]: column[2] for column in shape}
    return all([number in kinds and way_fits(way, kinds[number]) for number, way in rule])


def are_rows_so(shape, rule, part, rows):
    return all([is_row(shape, row) and part_of(shape, rule, row) == part for row in rows])
