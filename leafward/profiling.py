"""How the profiles of documents follow from one another."""

from leafward.choosing import Choosing
from leafward.moving import Moves
from leafward.stepping import Steps, bits_of, states_of


class Profiles:
    """The steps from the profiles of the children and of the rest to that of a document, under s, m and t.

    A profile is kept as (set, set, tuple of moves), sets and moves being kept as the numbers that stand for them.
    """

    def __init__(self, s, m, t):
        looks, states = m
        self.sets = Steps(s)
        self.looks = Steps(looks)
        self.choosing = Choosing(states)
        self.moves = Moves(t)
        self.empty = (self.sets.empty, self.looks.empty, self.moves_made(self.choosing.ends, (), ()))

    def after(self, label, inside, rest):
        """The profile that follows from a label, the profile of the children and that of the rest."""
        templates = self.choosing.templates_for(label, inside[1])
        return (
            self.sets.after(label, inside[0], rest[0]),
            self.looks.after(label, inside[1], rest[1]),
            self.moves_made(templates, inside[2], rest[2]),
        )

    def moves_made(self, templates, inside, rest):
        """The moves of what the templates make, from the moves of what is made of the children and of the rest."""
        return tuple([self.move_made(template, inside, rest) for template in templates])

    def move_made(self, template, inside, rest):
        """The move of what a template makes."""
        found = self.moves.empty
        for part in template:
            found = self.moves.joined(found, self.move_of_part(part, inside, rest))
        return found

    def move_of_part(self, part, inside, rest):
        """The move of what a part of a template makes."""
        if part[0] == "node":
            return self.moves.of_tree(part[1], self.move_made(part[2], inside, rest))
        return inside[part[1]] if part[0] == "in" else rest[part[1]]

    def turns_right(self, profile):
        """Whether m turns the documents of this profile into documents that t allows."""
        return self.moves.allows(0, profile[2][0])

    def is_good(self, profile):
        """Whether s does not allow the documents of this profile, or they are turned into some that t allows."""
        return profile[0] & 1 == 0 or self.turns_right(profile)

    def told(self, profile):
        """The profile, its sets and moves written as tuples."""
        left, looks, moves = profile
        return (states_of(left), states_of(looks), tuple([self.moves.pairs_of(move) for move in moves]))

    def kept(self, told):
        """The profile whose sets and moves are written as tuples in told."""
        left, looks, moves = told
        return (bits_of(left), bits_of(looks), tuple([self.moves.bits_of_pairs(pairs) for pairs in moves]))
