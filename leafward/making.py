"""What the states of a transformation make of documents."""

from leafward.choosing import Choosing
from leafward.errors import TooMuch
from leafward.stepping import Steps

MOST_MADE_TREES = 5000
MOST_MADE_NESTED = 100


class Making:
    """A document and those within it, with what each state of a transformation makes of them.

    The empty document has the number 0, and each other one a higher number than its children and its rest. So what is
    made of these is at hand when it is needed, and no calls are nested as deep as there are trees side by side.
    """

    def __init__(self, m, d):
        looks, states = m
        self.steps = Steps(looks)
        self.choosing = Choosing(states)
        self.sets = [self.steps.empty]
        self.kids = [0]
        self.rests = [0]
        self.templates = [self.choosing.ends]
        self.whole = self.number_of(d)
        self.measures = []
        self.measure_all()

    def number_of(self, d):
        """Number a document and those within it, and tell its own number."""
        rest = 0
        for label, trees in reversed(d):
            inside = self.number_of(trees)
            self.templates.append(self.choosing.templates_for(label, self.sets[inside]))
            self.sets.append(self.steps.after(label, self.sets[inside], self.sets[rest]))
            self.kids.append(inside)
            self.rests.append(rest)
            rest = len(self.sets) - 1
        return rest

    def source(self, word, number):
        """The number of the document that a part "in" or "next" is about."""
        return self.kids[number] if word == "in" else self.rests[number]

    def measure_all(self):
        """For each document and state find the size and the depth of what is made, which may be far beyond bounds."""
        for number, templates in enumerate(self.templates):
            self.measures.append([self.measure(template, number) for template in templates])

    def measure(self, template, number):
        """The size and the depth of what a template makes of a document."""
        many = deep = 0
        for part in template:
            more, depth = self.measure_part(part, number)
            many += more
            deep = max(deep, depth)
        return (many, deep)

    def measure_part(self, part, number):
        """The size and the depth of what a part of a template makes of a document."""
        if part[0] == "node":
            many, deep = self.measure(part[2], number)
            return (many + 1, deep + 1)
        return self.measures[self.source(part[0], number)][part[1]]

    def made(self, state):
        """What the state makes of the whole document; TooMuch if it is beyond the bounds."""
        if is_beyond(self.measures[self.whole][state]):
            raise TooMuch()
        documents = []
        for number, measures in enumerate(self.measures):
            # What is part of something within the bounds is so itself: nothing else is ever needed.
            documents.append([
                None if is_beyond(measure) else self.build(template, number, documents)
                for template, measure in zip(self.templates[number], measures)
            ])
        return documents[self.whole][state]

    def build(self, template, number, documents):
        """What a template makes of a document, from what has been made of those within it."""
        trees = []
        for part in template:
            if part[0] == "node":
                trees.append((part[1], self.build(part[2], number, documents)))
            else:
                trees.extend(documents[self.source(part[0], number)][part[1]])
        return tuple(trees)


def is_beyond(measure):
    """Whether something of that size and depth is beyond the bounds."""
    many, deep = measure
    return many > MOST_MADE_TREES or deep > MOST_MADE_NESTED
