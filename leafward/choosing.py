"""Which templates the states of a transformation choose."""


class Choosing:
    """The templates that the states choose. They are kept, as the same few are asked for again and again."""

    def __init__(self, states):
        self.states = states
        self.ends = [end for end, _ in states]
        self.chosen = {}

    def templates_for(self, label, inside):
        """For each state its template for a first tree with the label, its children having the set inside."""
        asked = (label, inside)
        if asked not in self.chosen:
            self.chosen[asked] = [first_choice(choices[label], inside) for _, choices in self.states]
        return self.chosen[asked]


def first_choice(choices, inside):
    """The template of the first choice whose look is in the set inside, else that of the last one."""
    for look, template in choices[:-1]:
        if inside >> look & 1:
            return template
    return choices[-1][1]
