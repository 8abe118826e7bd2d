"""Documents: tuples of trees, a tree being a pair of its label and its children."""

from leafward.errors import BadDocument, BadText
from leafward.forms import is_below, is_tuple_of

LABELS = 5
MOST_TREES = 300
MOST_NESTED = 30
DIGITS = "01234"


def check_document(d):
    """Raise BadDocument if d is no document within the bounds."""
    if not is_document(d):
        raise BadDocument()


def is_document(d):
    """Whether d, which may be anything, is a document within the bounds."""
    many = 0
    waiting = [(d, 1)]
    while waiting:
        trees, depth = waiting.pop()
        if not isinstance(trees, tuple) or (trees and depth > MOST_NESTED):
            return False
        # The count stops the walk early: a tuple that is shared many times can stand for more trees than can be walked.
        many += len(trees)
        if many > MOST_TREES or not all(is_tree(tree) for tree in trees):
            return False
        waiting.extend([(kids, depth + 1) for _, kids in trees])
    return True


def is_tree(tree):
    """Whether tree is a pair that begins with a label."""
    return is_tuple_of(tree, 2) and is_below(tree[0], LABELS)


def size(d):
    """The number of trees of d, those within others too."""
    check_document(d)
    return order_of(d)[0]


def order_of(d):
    """A list that compares with those of other documents as the documents do.

    It holds the size and, for each tree in turn, the label and the list of the children. Where two such lists are the
    same up to some place, this place has the same meaning in both, so the first difference decides.
    """
    many = 0
    behind = []
    for label, kids in d:
        inside = order_of(kids)
        many += 1 + inside[0]
        behind.append(label)
        behind.extend(inside)
    return [many] + behind


def before(d, e):
    """-1 if d comes before e in the order of documents, 0 if they are equal, 1 if e comes before d."""
    check_document(d)
    check_document(e)
    first = order_of(d)
    second = order_of(e)
    if first == second:
        return 0
    return -1 if first < second else 1


def written(d):
    """The text of a document."""
    check_document(d)
    return text_of(d)


def text_of(d):
    """The text of a document that has been checked."""
    return "".join([tree_text(label, kids) for label, kids in d])


def tree_text(label, kids):
    """The text of a tree: its label, and its children in brackets if there are any."""
    return f"{label}({text_of(kids)})" if kids else str(label)


def read(text):
    """The document that is written as text; BadText if there is none within the bounds."""
    reading = Reading()
    for sign in text:
        reading.take(sign)
    return reading.document()


class Reading:
    """A text that is read sign by sign: the rows of trees that are open, from the outermost to the innermost."""

    def __init__(self):
        self.rows = [[]]
        self.many = 0
        self.may_open = False

    def take(self, sign):
        """Take the next sign of the text."""
        if sign == "(":
            self.open_row()
        elif sign == ")":
            self.close_row()
        elif sign in DIGITS:
            self.add_tree(int(sign))
        else:
            raise BadText()

    def add_tree(self, label):
        """Put a tree without children at the end of the innermost row."""
        self.many += 1
        if self.many > MOST_TREES or len(self.rows) > MOST_NESTED:
            raise BadText()
        self.rows[-1].append((label, ()))
        self.may_open = True

    def open_row(self):
        """Begin the children of the tree whose label has just been read."""
        if not self.may_open:
            raise BadText()
        self.rows.append([])
        self.may_open = False

    def close_row(self):
        """End the innermost row, and give it to the tree that it belongs to."""
        if len(self.rows) == 1 or not self.rows[-1]:
            raise BadText()
        kids = tuple(self.rows.pop())
        label, _ = self.rows[-1].pop()
        self.rows[-1].append((label, kids))
        self.may_open = False

    def document(self):
        """What has been read, if the text may end here."""
        if len(self.rows) > 1:
            raise BadText()
        return tuple(self.rows[0])
