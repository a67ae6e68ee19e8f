"""[25]: many texts, right ones and such as are a little wrong, against tests/reference_texts.py."""

import unittest
from collections import Counter

from justfreed.errors import BadText
from justfreed.judging import judge
from justfreed.placing import placed
from justfreed.programs import is_program
from justfreed.texts import read_text, write_text
from justfreed.whole import compared, settled
from tests import reference_texts
from tests.test_placings_by_chance import placings, programs

SIGNS = "(){},;=+<:->- \n\n  0015rtAz_9*"
WORDS = (
    "( ) { } , ; = + < : -> - -5 5 05 007 60 59 4 r0 r1 r31 r32 r01 t0 t15 t16 t01 kind fun entry case give hold drop free in into "
    "number A0 B f0 f1 -x 1000000000000 1000000000001 -1000000000000 -1000000000001 0000 a1 r1x r t R T a2345678901 A2345678901 * _ > "
    "-- A B0").split(" ")


def changed(chance, text):
    """A text that comes of another one."""
    told = reference_texts.words(text) or [("", 0)]
    word, place = chance.choice(told)
    other, other_place = chance.choice(told)
    what = chance.randrange(9)
    if what == 0:
        return text[:place] + text[place + len(word):]
    if what == 1:
        return text[:place] + chance.choice(WORDS) + " " + text[place:]
    if what == 2:
        return text[:place] + chance.choice(WORDS) + text[place + len(word):]
    if what == 3:
        return text[:chance.randrange(len(text) + 1)]
    if what == 4:
        at = chance.randrange(len(text) + 1)
        return text[:at] + chance.choice(SIGNS) + text[at + chance.randrange(2):]
    if what == 5:
        return text[:place] + word + " " + word + text[place + len(word):]
    if what == 6:
        return text[:min(place, other_place)] + text[max(place, other_place):]
    if what == 7:
        return text[:place] + other + text[place + len(word):]
    if chance.random() < 0.5:
        return "".join(chance.choice((" ", "\n", "", "  ")) if sign == " " else sign for sign in text)
    return text.replace(" ", chance.choice(("\n  ", "  ")))


class TextsByChanceTest(unittest.TestCase):
    def test_texts(self):
        told = Counter()
        for chance, program in programs(range(17000, 17075)):
            for placing in placings(chance, program, 2):
                text = write_text(program, placing)
                self.assertEqual(read_text(text), (program, placing))
                self.assertIsNone(reference_texts.wrong_place(text))
                self.assertEqual(" ".join(word for word, _ in reference_texts.words(text)), text)
                for _ in range(10):
                    other = text
                    for _ in range(chance.choice((1, 1, 2))):
                        other = changed(chance, other)
                    self.one(other, told)
        self.assertGreater(min(told["read"], told["early"], told["place"]), 100, told)
        self.assertGreater(told["none"], 0, told)

    def one(self, text, told):
        expected = reference_texts.wrong_place(text)
        try:
            program, placing = read_text(text)
        except BadText as error:
            if expected is None:
                told["none"] += 1
            elif expected == len(text):
                told["early"] += 1
            else:
                told["place"] += 1
            self.assertEqual(error.place, len(text) if expected is None else expected, text)
        else:
            self.assertIsNone(expected)
            self.assertIs(is_program(program), True)
            self.assertEqual(read_text(write_text(program, placing)), (program, placing))
            told["read"] += 1

    def test_settled_and_compared(self):
        told = Counter()
        for chance, program in programs(range(18000, 18100)):
            texts = {write_text(program, placing): placing for placing in placings(chance, program, 3)}
            for text, placing in texts.items():
                self.assertEqual(settled(text), write_text(program, placed(program)))
                answer = compared(settled(text), text)
                result = judge(program, placing)
                if result[0] == "wrong":
                    self.assertEqual(answer, ("broken", 1, result[1:]))
                    self.assertEqual(compared(text, settled(text)), ("broken", 0, result[1:]))
                else:
                    self.assertEqual(answer[0], "right")
                    has_tokens = any(token is not None for _, rows in placing for _, token, _ in rows)
                    self.assertEqual(answer[1] is None, has_tokens)
                    self.assertEqual(answer[1] == (), text == settled(text))
                told[answer[0], answer[1] is None] += 1
        self.assertGreater(min(told["broken", False], told["right", False], told["right", True]), 10, told)


if __name__ == "__main__":
    unittest.main()
