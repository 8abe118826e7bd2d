"""The texts of schemas: a line for each state."""

from leafward.errors import BadText
from leafward.schema import check_schema, is_schema

MOST_DIGITS = 2


def written_schema(s):
    """The text of a schema."""
    check_schema(s)
    return "\n".join([written_state(state, ends, rules) for state, (ends, rules) in enumerate(s)])


def written_state(state, ends, rules):
    """The line of a state: its number, whether it ends, and its rules."""
    words = [f"{state}:"] + (["end"] if ends else [])
    return " ".join(words + [f"{label}.{inside}.{behind}" for label, inside, behind in rules])


def read_schema(text):
    """The schema that is written as text; BadText if there is none within the bounds."""
    found = tuple([read_state(state, line) for state, line in enumerate(text.split("\n"))])
    if not is_schema(found):
        raise BadText()
    return found


def read_state(state, line):
    """What is written in the line of a state. Whether its rules are rules is not asked here."""
    head, *words = line.split(" ")
    if head != f"{state}:":
        raise BadText()
    ends = words[:1] == ["end"]
    return (ends, tuple([read_rule(word) for word in (words[1:] if ends else words)]))


def read_rule(word):
    """The numbers that are written in a word, with dots between them."""
    return tuple([read_number(digits) for digits in word.split(".")])


def read_number(digits):
    """The number that is written in digits, without a nought in front."""
    # Longer ones are beyond all bounds, and of the longest ones int would make an error of its own.
    if len(digits) > MOST_DIGITS or not digits.isascii() or not digits.isdigit():
        raise BadText()
    number = int(digits)
    if str(number) != digits:
        raise BadText()
    return number
