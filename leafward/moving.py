"""How the moves of documents under schemas follow from one another.

A move is kept as a number here: under a schema of n states, bit q * n + r stands for the pair (q, r). So the n bits
from q * n on are the row of q, the set of all states that q is paired with.
"""

from leafward.stepping import bits_of, ends_of, rules_by_label, states_of


class Moves:
    """The steps from moves to moves, under one schema.

    Each step is kept, as the same few moves meet one another again and again.
    """

    def __init__(self, schema):
        self.many = len(schema)
        self.ends = ends_of(schema)
        self.rules = rules_by_label(schema)
        self.full_row = (1 << self.many) - 1
        self.full_column = bits_of([state * self.many for state in range(self.many)])
        self.empty = self.bits_of_pairs([(state, state) for state in range(self.many)])
        self.trees = {}
        self.joints = {}

    def after(self, label, inside, rest):
        """The move that follows from a label, the move of the children and that of the rest."""
        return self.joined(self.of_tree(label, inside), rest)

    def of_tree(self, label, inside):
        """The move of a single tree, from its label and the move of its children."""
        asked = (label, inside)
        if asked not in self.trees:
            pairs = {(state, behind): True for state, kids, behind in self.rules[label] if self.allows(kids, inside)}
            self.trees[asked] = self.bits_of_pairs(pairs)
        return self.trees[asked]

    def allows(self, state, move):
        """Whether the state allows the documents that have this move."""
        return self.row(move, state) & self.ends != 0

    def row(self, move, state):
        """The states that the move pairs with the state."""
        return move >> state * self.many & self.full_row

    def joined(self, left, right):
        """The move of the trees of one document, followed by those of another one."""
        asked = (left, right)
        if asked not in self.joints:
            self.joints[asked] = self.joint_of(left, right)
        return self.joints[asked]

    def joint_of(self, left, right):
        """All pairs (q, r) such that for some z (q, z) is in left and (z, r) in right."""
        found = 0
        for state in range(self.many):
            # A bit for each q that is paired with the state; the product has the state's row of right at all of them.
            column = left >> state & self.full_column
            found = found | column * self.row(right, state)
        return found

    def bits_of_pairs(self, pairs):
        """The number that stands for the move of these pairs, none of which comes twice."""
        return bits_of([state * self.many + behind for state, behind in pairs])

    def pairs_of(self, move):
        """The strictly rising tuple of the pairs of a move."""
        return tuple([(state, behind) for state in range(self.many) for behind in states_of(self.row(move, state))])
