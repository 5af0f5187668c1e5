import itertools
import random
import re
import time
import unittest

from signedpacts.errors import BadText, TooLarge
from signedpacts.notation import parse_pact
from tests.plain_pacts import some_pact

GREATEST = 10 ** 60


def wrong_place(text):
    """Where a text is wrong, by reading it from the left with one function for each form; None if it is a pact."""
    tokens = [(found.start(), found.group()) for found in re.finditer(r"[A-Za-z0-9]+|[^ ]", text)] + [(len(text), "")]
    place = [0]

    class Wrong(Exception):
        pass

    def now():
        return tokens[place[0]][1]

    def want(*signs):
        if now() not in signs:
            raise Wrong()
        place[0] += 1

    def number(word, greatest):
        return re.fullmatch("0|[1-9][0-9]*", word) is not None and len(word) < 100 and int(word) <= greatest

    def pact():
        if now() == ".":
            place[0] += 1
            return
        part()
        while now() == ",":
            place[0] += 1
            part()

    def part():
        word = now()
        if re.fullmatch("[A-Z]", word):
            place[0] += 1
        elif re.fullmatch("[a-f][a-f].*", word) and word[0] != word[1] and number(word[2:], GREATEST):
            place[0] += 1
        elif word == "[":
            place[0] += 1
            pact()
            want("]")
        elif re.fullmatch("[a-f]", word):
            place[0] += 1
            want("(", "[")
            if tokens[place[0] - 1][1] == "[":
                pact()
                want("]")
            else:
                options()
        elif number(word, 100):
            place[0] += 1
            want("(")
            pact()
            want(")")
        else:
            raise Wrong()

    def options():
        pact()
        want("|")
        for many in range(2, 7):
            pact()
            want(*("|" if many < 6 else ""), ")")
            if tokens[place[0] - 1][1] == ")":
                return

    try:
        pact()
        want("")
    except Wrong:
        return tokens[place[0]][0]
    return None


class Notation(unittest.TestCase):
    def bad(self, text, at):
        with self.assertRaises(BadText) as caught:
            parse_pact(text)
        self.assertEqual(vars(caught.exception), {"at": at}, text)

    def large(self, text, weight, depth):
        with self.assertRaises(TooLarge) as caught:
            parse_pact(text)
        self.assertEqual(vars(caught.exception), {"weight": weight, "depth": depth})

    def test_the_examples_of_the_document(self):
        self.assertEqual(parse_pact(" ab5,b( D |.)").text, "ab5, b(D | .)")
        self.bad("ab5, b(D)", 8)
        text = "ab5, b(D, ba2 | .), a[ab1, D], 3(ba1), [cd1, dc1]"
        pact = parse_pact(text)
        self.assertEqual((pact.text, pact.weight, pact.depth), (text, 14, 2))
        self.assertEqual([part.KIND for part in pact], ["transfer", "choice", "rounds", "times", "endless"])

    def test_every_form(self):
        for text in (".", "A", "Z", "ab0", f"fe{GREATEST}", "a(. | .)", "f(. | D | . | D | . | .)", "a[.]", "[.]", "0(.)",
                     "100(.)", "7(b[c(. | 2([D]))])", "D, E, ab1, D"):
            self.assertEqual(parse_pact(text).text, text)
            self.assertEqual(parse_pact(f"  {text.replace('(', ' ( ').replace('|', '  |').replace(',', ' , ')} ").text, text)
            self.assertEqual(parse_pact(text.replace(" ", "")).text, text)
        pact = parse_pact("a(ab1 | D)")
        self.assertEqual((pact.parts[0].owner, pact.parts[0].options[1].parts[0].mark), ("a", "D"))
        self.assertEqual(parse_pact("12(ab34)").parts[0].count, 12)
        self.assertEqual(parse_pact("ab34").parts[0].amount, 34)

    def test_written_pacts_are_read_again(self):
        chance = random.Random(1)
        for _ in range(300):
            pact = some_pact(chance, chance.randint(1, 60), "abcdef", "ABCXYZ")
            self.assertEqual(parse_pact(pact.text), pact)

    def test_wrong_words(self):
        for word in ("ab", "aa1", "ag1", "Ab1", "ab01", "ab00", "ab1x", "a1", "g", "AB", "a0", "00", "01", "101", "007",
                     "1000", f"ab{GREATEST + 1}", "ab1" + "0" * 61, "ab-1", "world", "aB", "abc1", "1a", "D1", "1(D)1"):
            wrong = 4 if word == "1(D)1" else 0
            self.bad(word, wrong)
            self.bad(f"D, {word}", 3 + wrong)
        for word in ("1" * 100000, "ab" + "9" * 100000, "a" * 100000, "D" * 100000, "0" * 5000):
            self.bad(f" {word}", 1)
            self.bad(f"a[ {word} ]", 3)

    def test_characters_that_begin_no_token(self):
        for sign in "{}<>+-_*/:;!?'\"#$&=@\\^`~\t\n":
            self.bad(f"D, {sign}", 3)
            self.bad(f"D{sign}", 1)
            self.bad(sign, 0)
        self.bad("ab5 %", 4)
        self.bad("\u00e9", 0)
        self.bad("ab\u0661", 0)

    def test_texts_that_end_too_early(self):
        for text in ("", " ", "   ", "a", "3", "a(", "a(D", "a(D |", "a(D | E", "[", "[D", "b[", "b[D", "D,", "D, ", "3(", "3(D",
                     "a(. ", "a(.|.", "[.  "):
            self.bad(text, len(text))

    def test_tokens_that_cannot_stand_there(self):
        for text, at in (("D E", 2), (". D", 2), ("., D", 1), ("D, .", 3), (". .", 2), (",D", 0), ("D,,E", 2), ("a D", 2),
                         ("a, D", 1), ("a.", 1), ("3[D]", 1), ("3 D", 2), ("3, D", 1), ("(D | E)", 0), (")", 0), ("]", 0),
                         ("|", 0), ("D | E", 2), ("D)", 1), ("D]", 1), ("a(D]", 3), ("a[D)", 3), ("[D)", 2), ("3(D]", 3),
                         ("a(D)", 3), ("a(.)", 3), ("a()", 2), ("a[]", 2), ("[]", 1), ("3()", 2), ("3(D | E)", 4),
                         ("a[D | E]", 4), ("[D | E]", 3), ("a(D | )", 6), ("a(D, | E)", 5), ("a(|D)", 2), ("a(D || E)", 5),
                         ("a(D | E))", 8), ("[D]]", 3), ("ab1 ab1", 4), ("a a(. | .)", 2), ("3 3(.)", 2), ("ab1(D)", 3),
                         ("D(D | E)", 1), ("D[D]", 1), ("a(D | E)[D]", 8), (".(D)", 1), ("a(. D | .)", 4)):
            self.bad(text, at)

    def test_the_first_mistake_counts(self):
        self.bad("ab01, )", 0)
        self.bad("a) ab01", 1)
        self.bad("D, world, ]", 3)
        self.bad("a(D) %", 3)

    def test_numbers_of_options(self):
        for many in range(2, 7):
            text = "a(" + " | ".join("D" * many) + ")"
            self.assertEqual(len(parse_pact(text).parts[0].options), many)
            self.assertEqual(parse_pact(f"a({text} | {text})").text, f"a({text} | {text})")
        self.bad("a(D|D|D|D|D|D|D)", 13)
        self.bad("a(D|D|D|D|D|D|", 13)
        self.bad("a(.|.|.|.|.|.|", 13)
        self.bad("a(D|D|D|D|D|b(D|E)|D)", 18)
        self.bad("a(b(D|E))", 8)

    def test_thirty_open_brackets(self):
        for opened, closed in (("[", "]"), ("a[", "]"), ("1(", ")"), ("a(", " | .)")):
            for many in (29, 30):
                text = opened * many + "." + closed * many
                self.assertEqual(parse_pact(text).depth, many)
            self.bad(opened * 31 + "." + closed * 31, len(opened) * 31 - 1)
            self.bad(opened * 30, len(opened) * 30)
        self.bad("[" * 30 + "1(.)", 31)
        self.bad("[" * 30 + "1[.)", 31)
        self.assertEqual(parse_pact(", ".join(["[" * 30 + "." + "]" * 30] * 3)).depth, 30)
        self.bad(", ".join(["[" * 30 + "." + "]" * 30, "[" * 31]), 62 + 1 + 30)

    def test_too_large_pacts(self):
        self.assertEqual(parse_pact(", ".join(["D"] * 400)).weight, 400)
        self.large(", ".join(["D"] * 401), 401, 1)
        self.large("[" * 30 + "D" + "]" * 30, 31, 31)
        # The first thing that is too great, where each one is made after what it contains, from left to right.
        self.large("a[100(D, D, D, D)], [" + ", ".join(["D"] * 400) + "]", 401, 2)
        self.large("[" + ", ".join(["D"] * 400) + "], 100(D, D, D, D)", 401, 2)
        self.large("D, 100(D, D, D), a(100(D, D, D) | D)", 605, 3)
        self.large("100(D), 100(100(D))", 10101, 3)
        self.large("a(100(D, D) | 100(D, D))", 403, 3)
        self.large(", ".join(["D"] * 50000), 50000, 1)

    def test_mistakes_come_before_sizes(self):
        text = "100(100(D)), " + ", ".join(["D"] * 500)
        self.bad(text + " )", len(text) + 1)
        self.bad(text + ",", len(text) + 1)
        self.bad("100(100(D)), a(D)", 16)

    def test_all_short_texts(self):
        signs = ["D", "a", "2", "(", ")", "[", "]", "|", ",", "."]
        for many in range(1, 6):
            for tokens in itertools.product(signs, repeat=many):
                self.check(" ".join(tokens))

    def test_changed_texts(self):
        chance = random.Random(2)
        for _ in range(2000):
            text = some_pact(chance, 12, "abc", "DE").text
            for _ in range(chance.randint(1, 3)):
                at = chance.randint(0, len(text))
                text = text[:at] + chance.choice(["", "(", ")", "[", "]", "|", ",", ".", "a", "0", "D", "ab1", " "]) + (
                    text[at + chance.randint(0, 1):])
            self.check(text)

    def check(self, text):
        at = wrong_place(text)
        if at is None:
            parse_pact(text)
            return
        try:
            parse_pact(text)
        except BadText as error:
            if error.at == at:
                return
        self.fail((text, at))

    def test_long_texts_are_read_quickly(self):
        began = time.monotonic()
        self.bad("D, " * 100000, 300000)
        self.bad(" " * 300000, 300000)
        self.bad("[" * 100000, 30)
        self.assertLess(time.monotonic() - began, 20)


if __name__ == "__main__":
    unittest.main()
