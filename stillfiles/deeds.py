"""The deeds of a Writer: each is refused, or writes its files and makes a work (promises 24, 29 and 30).

Each is refused ahead of its first step.
"""

from stillfiles.checks import check_rows, check_tag, fitting_column
from stillfiles.commits import data_entries, entries_at, tagged_number, told_commit
from stillfiles.conditions import bound
from stillfiles.errors import NoFile, NoName
from stillfiles.filenames import stands_in
from stillfiles.limits import SIZE
from stillfiles.parts import bound_rule
from stillfiles.putting import mark_files, put_files
from stillfiles.shapes import reshaped_by
from stillfiles.standing import found_rows, read_rows
from stillfiles.works import made_work
from stillfiles.worths import is_name


def put_work(shelf, base, rows, size):
    check_rows(base.columns, rows)
    return made_work(base, "put", puts=put_files(shelf, base, rows, size))


def drop_work(shelf, base, where):
    tests = bound(base.columns, where)
    found = found_rows(shelf, base.head_then, base.commit_then, tests)
    return made_work(base, "drop", reads=tests, marks=mark_files(shelf, found))


def change_work(shelf, base, where, name, worth):
    tests = bound(base.columns, where)
    number = fitting_column(base.columns, name, worth)
    found = found_rows(shelf, base.head_then, base.commit_then, tests)
    changed = []
    for _, rows in found:
        changed.extend([with_worth(base.columns, number, worth, row) for _, row in rows])
    marks = mark_files(shelf, found)
    puts = put_files(shelf, base, changed, SIZE)
    return made_work(base, "change", reads=tests, puts=puts, marks=marks, more=number)


def with_worth(shape, number, worth, row):
    return tuple([worth if column[0] == number else own for column, own in zip(shape, row)])


def key_work(shelf, base, name, worth):
    number = fitting_column(base.columns, name, worth)
    file = shelf.write("key", ("key", number, worth))
    return made_work(base, "key", keys=((file, number, worth),))


def reshape_work(base, changes):
    # Only whether they can be done is asked here: the new shape is made with the head.
    reshaped_by(base.columns, base.fields, base.head_then[4], changes)
    return made_work(base, "reshape", more=changes)


def rerule_work(base, rule):
    return made_work(base, "rerule", more=bound_rule(base.columns, rule))


def check_gathered(files, datas):
    if not isinstance(files, tuple):
        raise NoFile(files)
    asked = {}
    for file in files:
        if not stands_in(datas, file) or file in asked:
            raise NoFile(file)
        asked[file] = True


def gather_work(shelf, base, files, size):
    entries = entries_at(shelf, base.commit_then)
    datas = data_entries(entries)
    check_gathered(files, {entry[1]: True for entry in datas})
    gathered = [entry for entry in datas if entry[1] in files]
    rows = []
    for entry in gathered:
        rows.extend([row for _, row in read_rows(shelf, base.head_then, base.commit_then, entry, entries)])
    puts = put_files(shelf, base, rows, size)
    return made_work(base, "gather", puts=puts, takes=tuple([entry[1] for entry in gathered]))


def back_work(base, number):
    told_commit(base.head_then, number)
    return made_work(base, "back", more=number)


def tag_work(base, tag, number):
    if not is_name(tag):
        raise NoName(tag)
    check_tag(base.head_then, tag, number)
    return made_work(base, "tag", more=(tag, number))


def untag_work(base, tag):
    tagged_number(base.head_then, tag)
    return made_work(base, "untag", more=tag)


def let_work(base, keep, age):
    return made_work(base, "let", more=(keep, age))
