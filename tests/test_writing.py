"""[2.1], [2.3]: the texts of schemas."""

import itertools
import random
import unittest

from leafward.errors import BadSchema, BadText
from leafward.schema import check_schema
from leafward.writing import read_schema, written_schema
from tests import plain

EXAMPLE = ((True, ((1, 0, 2), (1, 1, 0))), (False, ()), (True, ()), (False, ((0, 2, 1), (4, 2, 2))))
TEXT = "0: end 1.0.2 1.1.0\n1:\n2: end\n3: 0.2.1 4.2.2"


def plain_text(s):
    lines = []
    for state, (ends, rules) in enumerate(s):
        line = str(state) + ":"
        if ends:
            line += " end"
        for a, x, y in rules:
            line += " " + str(a) + "." + str(x) + "." + str(y)
        lines.append(line)
    return "\n".join(lines)


class Written(unittest.TestCase):
    def test_texts(self):
        self.assertEqual(written_schema(EXAMPLE), TEXT)
        self.assertEqual(written_schema(plain.NOTHING), "0:")
        self.assertEqual(written_schema(plain.EMPTY_ONLY), "0: end")
        self.assertEqual(written_schema(plain.ANYTHING), "0: end 0.0.0 1.0.0 2.0.0 3.0.0 4.0.0")
        s = ((True, ((1, 0, 2),)), (False, ()), (False, ()))
        self.assertEqual(written_schema(s).split("\n")[0], "0: end 1.0.2")

    def test_there_and_back(self):
        rng = random.Random(151)
        for _ in range(100):
            s = plain.random_schema(rng, rng.randrange(1, 30), 60, range(5))
            self.assertEqual(written_schema(s), plain_text(s))
            self.assertEqual(read_schema(plain_text(s)), s)
            self.assertIsNone(check_schema(read_schema(written_schema(s))))

    def test_kinds_of_values(self):
        for s in (EXAMPLE, plain.ANYTHING):
            found = read_schema(written_schema(s))
            for ends, rules in found:
                self.assertIsInstance(ends, bool)
                self.assertTrue(all(int is number.__class__ for rule in rules for number in rule))

    def test_refused(self):
        for number, s in enumerate(plain.BAD_SCHEMAS):
            with self.subTest(number=number):
                self.assertRaises(BadSchema, written_schema, s)


class Bounds(unittest.TestCase):
    def test_states(self):
        for many in (59, 60):
            s = ((True, ()),) * (many - 1) + ((False, ((4, many - 1, many - 1),)),)
            self.assertEqual(written_schema(s), plain_text(s))
            self.assertEqual(read_schema(plain_text(s)), s)
        for many in (61, 62, 100, 101, 1000):
            self.assertRaises(BadText, read_schema, plain_text(((True, ()),) * many))

    def test_rules(self):
        for states in (20, 60):
            s = plain.all_rules(states, 2000)
            self.assertEqual(written_schema(s), plain_text(s))
            self.assertEqual(read_schema(plain_text(s)), s)
            self.assertRaises(BadText, read_schema, plain_text(plain.all_rules(states, 2001)))
        s = ((True, plain.all_rules(20, 40000)[0][1]),) + ((True, ()),) * 19
        self.assertEqual(read_schema(plain_text(s)), s)
        self.assertRaises(BadText, read_schema, plain_text(s[:19] + ((True, ((0, 0, 0),)),)))


class OtherTexts(unittest.TestCase):
    def wrong(self, text):
        self.assertRaises(BadText, read_schema, text)

    def test_lines(self):
        lines = TEXT.split("\n")
        self.assertEqual(read_schema("\n".join(lines)), EXAMPLE)
        for at in range(4):
            if at < 3:
                self.wrong("\n".join(lines[:at] + lines[at + 1:]))
                self.wrong("\n".join(lines[:at] + [lines[at + 1], lines[at]] + lines[at + 2:]))
            self.wrong("\n".join(lines[:at] + [lines[at]] + lines[at:]))
            self.wrong("\n".join(lines[:at] + [""] + lines[at:]))
        # The last line may be left out only if no rule leads to its state.
        self.assertEqual(len(read_schema("\n".join(lines[:3]))), 3)
        self.wrong("\n".join(lines[:2]))
        self.wrong("\n".join(reversed(lines)))
        for text in (TEXT + "\n", "\n" + TEXT, TEXT.replace("\n", "\r\n"), TEXT.replace("\n", "\r"), TEXT.replace("\n", "\n\n"),
                     TEXT.replace("\n", " "), TEXT.replace("\n", ""), TEXT.replace("\n", "\x0b"), TEXT.replace("\n", "\u2028"),
                     TEXT + "\n ", TEXT + "\x00", "\ufeff" + TEXT):
            self.wrong(text)

    def test_short_texts(self):
        texts = (
            "", "\n", " ", "0", ":", "0 :", "0: ", " 0:", "0:\n", "1:", "00:", "-0:", "+0:", "0::", "0.:", "0:end", "0: End",
            "0: END", "0: end ", "0:  end", "0: end end", "0: ends", "0: en", "0: end\n", "0: end\n1", "0: end\n2:", "0:\n0:",
            "0:\t", "0:\tend", "end", "0: True", "0: 0", "0: 0.0", "0: 0.0.0.0", "0: 0.0.", "0: .0.0", "0: 0..0", "0: ..",
            "0: 0.0.0.", "0: 0,0,0", "0: 0.0.0,", "0: 0 0 0", "0:0.0.0", "0: 0.0.0 ", "0: 0.0.0  1.0.0", "0:  0.0.0",
            "0: 0.0.0 end", "0: end 0.0.0 end", "0: 0.0.0end", "0: end0.0.0", "0: 0.0.0\t1.0.0", "0: 0.0.0 0.0.0",
            "0: 1.0.0 0.0.0", "0: 5.0.0", "0: 0.1.0", "0: 0.0.1", "0: -1.0.0", "0: 0.-1.0", "0: 0.0.-1", "0: +0.0.0",
            "0: 0.+0.0", "0: 00.0.0", "0: 0.00.0", "0: 0.0.00", "0: 01.0.0", "0: 0.0.0x", "0: a.b.c", "0: 0x0.0.0", "0: 1_0.0.0",
            "0: 0.0.0\n1: 0.2.0", "0: 0.0.0\n1: 0.0.2", "0: 0.0.01\n1:", "0: 0.01.0\n1:", "0: 0.1.0 0.0.1\n1:",
            "0: 0.0.1 0.0.0\n1:", "0: 0.0.0\n01:", "0: 0.0.0\n1 :", "0: 0.0.0\n 1:", "0: 0.0.0 \n1:", "0: 0. 0.0", "0: 0.0 .0",
            "0: \u0660.0.0", "0: 0.\uff10.0", "0: 0.0.\u00b2", "\u0660:", "0\uff1a", "0:\u00a0end", "0: 0.0.0\u200b", "0: \u2460.0.0",
            "0: 1e0.0.0", "0: 1.0.0 1.0.0", "0: None", "0: 0.0.False", "\ud800", "0: 0.0.\ud800", "()", "((True, ()),)",
            "0: end 1.0.0 0.0.0", "0: 0.0.0\n1: end\n2: end\n3: 0.0.4", "0: 60.0.0", "0: 0.60.0", "0: 0.0.60", "0: 0.99.0",
        )
        for text in texts:
            with self.subTest(text=text):
                self.wrong(text)

    def test_very_long_numbers(self):
        for digits in ("0" * 5000, "1" * 5000, "1" + "0" * 100000, "9" * 4300, "9" * 4301):
            for text in (f"0: {digits}.0.0", f"0: 0.{digits}.0", f"0: 0.0.{digits}", f"{digits}:", f"0:\n{digits}:"):
                self.wrong(text)

    def test_very_long_texts(self):
        for text in ("0:\n" * 50000, "0: " + "0.0.0 " * 50000, "\n" * 50000, " " * 50000, "." * 50000, "0: " + "." * 50000):
            self.wrong(text)

    def test_texts_with_one_sign_more_less_or_other(self):
        s = ((True, ((0, 0, 1), (0, 1, 0), (2, 10, 1))), (False, ((1, 1, 1),))) + ((True, ()),) * 9
        text = written_schema(s)
        others = " :.\n\te0123456789-+"
        for at in range(len(text) + 1):
            changed = [text[:at] + text[at + 1:]] + [text[:at] + sign + text[at:] for sign in others]
            changed += [text[:at] + sign + text[at + 1:] for sign in others]
            for other in changed:
                self.only_what_is_written_so(other)

    def test_all_texts_of_a_few_words(self):
        words = ("0:", "1:", "end", "0.0.0", "0.0.1", "1.0.0")
        blanks = (" ", "\n")
        for first, second, third in itertools.product(words, repeat=3):
            for left, right in itertools.product(blanks, repeat=2):
                self.only_what_is_written_so(first + left + second + right + third)

    def only_what_is_written_so(self, text):
        """The text is read only if it is the one in which the schema is written."""
        try:
            found = read_schema(text)
        except BadText:
            return
        self.assertIsNone(check_schema(found))
        self.assertEqual(plain_text(found), text)


if __name__ == "__main__":
    unittest.main()
