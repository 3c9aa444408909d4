"""Which files a file names in its turn (promise 37)."""


def links_in(place, file):
    """The files that a file has as commits' lists, rows' lists, entries' own files: heads and lists alone have such."""
    if file[0] not in "hsl" or not place.has(file):
        return []
    content = place.read(file)
    if content[0] == "head":
        return [commit[5] for commit in content[5]]
    return [row[0] if content[0] == "lists" else row[1] for row in content[1]]
