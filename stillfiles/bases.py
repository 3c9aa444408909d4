"""What a Writer began with (promise 23)."""

from stillfiles.commits import done_of, rule_of, shape_of


class Base:
    """A table's head as it was when a Writer began, its last commit, and the number of the work to come."""

    def __init__(self, head, title, moment):
        self.head_then = head
        self.commit_then = head[5][-1]
        self.number = self.commit_then[0]
        self.columns = shape_of(head, self.commit_then)
        self.fields = rule_of(head, self.commit_then)
        self.title = title
        self.began = moment
        done = done_of(head, title)
        self.turn = 1 if done is None else done[0] + 1
