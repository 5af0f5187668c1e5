import random
import re
import unittest

from signedpacts.books import read_deeds, write_deeds
from signedpacts.errors import BadLine
from signedpacts.houses import replay
from tests.plain_debts import PAIRS
from tests.plain_houses import some_deed, told_by_house
from tests.raising import Raising

MOST = 10 ** 60 - 1
NUMBER = "(0|[1-9][0-9]{0,59})"
LABEL = "[1-9][0-9]{0,59}[a-f]"
NAME = "[a-z]{1,12}"
NUMBERS = f"(-|{NUMBER}(,{NUMBER})*)"
FORMS = [
    f"amend add {LABEL} (-|{LABEL}) .*", f"amend change {LABEL} {LABEL}(,{LABEL}){{0,3}} .*", f"amend strike {LABEL} {LABEL}",
    f"sign {NAME}", f"move {NAME} ([a-f]|world) (take|rounds) {NUMBER}", f"pay ({'|'.join(PAIRS)}) {NUMBER}", "set off",
    f"paper (-[1-9][0-9]{{0,59}}|{NUMBER}) {NUMBERS} {NUMBERS} (-|{NUMBER})", "rule"]

DEEDS = [
    (("amend", ("add", (1, "a"), None, "ab5, D")), "amend add 1a - ab5, D"),
    (("amend", ("add", (12, "b"), (1, "a"), "")), "amend add 12b 1a "),
    (("amend", ("change", (2, "f"), ((1, "a"),), "  D ")), "amend change 2f 1a   D "),
    (("amend", ("change", (MOST, "f"), ((1, "a"), (2, "b"), (1, "a"), (3, "c")), "-")), f"amend change {MOST}f 1a,2b,1a,3c -"),
    (("amend", ("strike", (3, "a"), (2, "f"))), "amend strike 3a 2f"),
    (("sign", "lease"), "sign lease"), (("sign", "a"), "sign a"), (("sign", "abcdefghijkl"), "sign abcdefghijkl"),
    (("move", "lease", "world", ("rounds", 3)), "move lease world rounds 3"),
    (("move", "take", "f", ("take", 0)), "move take f take 0"),
    (("move", "world", "a", ("rounds", MOST)), f"move world a rounds {MOST}"),
    (("pay", "ab", 0), "pay ab 0"), (("pay", "fe", MOST), f"pay fe {MOST}"), (("set off",), "set off"), (("rule",), "rule"),
    (("paper", -2, (0, 1), (), 0), "paper -2 0,1 - 0"), (("paper", 0, (), (), None), "paper 0 - - -"),
    (("paper", -MOST, (MOST,), (7, 7, 0), MOST), f"paper {-MOST} {MOST} 7,7,0 {MOST}")]

BAD_LINES = [
    "", " ", "rule ", " rule", "Rule", "rules", "rule rule", "set", "setoff", "set  off", "set off ", "sett off", "set on", "-", "sign",
    "sign ", "sign  a", "sign A", "sign a b", "sign abcdefghijklm", "sign le4se", "sign lease ", "signlease", "amend", "amend ",
    "amend add", "amend add 1a", "amend add 1a -", "amend add 1a  D", "amend  add 1a - D", "amend add a - D", "amend add 1 - D",
    "amend add 0a - D", "amend add 01a - D", "amend add 1g - D", "amend add 1A - D", "amend add -1a - D", "amend add 1a 1 D",
    "amend add 1a 1a,2a D", "amend add 1a -- D", f"amend add {10 ** 60}a - D", "amend Add 1a - D", "amend add 1ab - D",
    "amend change 2a - D", "amend change 2a 1a", "amend change 2a 1a,1a,1a,1a,1a D", "amend change 2a 1a, D", "amend change 2a ,1a D",
    "amend change 2a 1a,,2a D", "amend change 2a 1a,0a D", "amend change - 1a D", "amend strike 2a", "amend strike 2a -",
    "amend strike 2a 1a ", "amend strike 2a 1a D", "amend strike 2a 1a,1b", "amend remove 2a 1a", "amended add 1a - D", "move",
    "move lease a take", "move lease a take ", "move lease a take -1", "move lease a take 01", "move lease a take +1", "move lease g take 1",
    "move lease World take 1", "move lease a Take 1", "move lease a choose 1", "move lease a take 1 ", "move Lease a take 1",
    "move lease take 1", "move lease a  take 1", f"move lease a rounds {10 ** 60}", "move lease a take 1.0", "move lease a take 1_0",
    "move lease worlda take 1", "pay", "pay ab", "pay aa 1", "pay a 1", "pay abc 1", "pay ag 1", "pay Ab 1", "pay ab -1", "pay ab -0",
    "pay ab 00", "pay ab 1 ", "pay ab x", f"pay ab {10 ** 60}", "pay ab " + "1" * 5000, "paper", "paper 0 - -", "paper 0 - - - -",
    "paper - - - -", "paper -0 - - -", "paper --1 - - -", "paper +1 - - -", "paper -01 - - -", "paper 0 -1 - -", "paper 0 0, - -",
    "paper 0 ,0 - -", "paper 0 0,,1 - -", "paper 0 0,-1 - -", "paper 0 0,- - -", "paper 0 - - -1", "paper 0 - - 1,2", "paper 0  - -",
    f"paper -{10 ** 60} - - -", f"paper 0 {10 ** 60} - -", "paper 0 00 - -", "paper 0 - - none", "undo", "redo"]


class Books(Raising):
    def test_each_form(self):
        deeds, lines = [deed for deed, _ in DEEDS], [line for _, line in DEEDS]
        self.assertEqual(write_deeds(deeds), tuple(lines))
        self.assertEqual(read_deeds(lines), tuple(deeds))
        self.assertEqual(read_deeds(tuple(lines)), read_deeds(write_deeds(tuple(deeds))))
        self.assertEqual((write_deeds([]), read_deeds([])), ((), ()))

    def test_lists(self):
        given = [["amend", ["add", [1, "a"], None, "ab5, D"]], ["amend", ["change", [2, "a"], [[1, "a"], [1, "a"]], "D"]],
                 ["amend", ["strike", [2, "a"], [1, "a"]]], ["paper", -2, [0, 1], [], 0], ["sign", "x"], ["set off"], ["pay", "ab", 3],
                 ["move", "x", "a", ("take", 1)], ["rule"]]
        self.assertEqual(read_deeds(write_deeds(given)), (
            ("amend", ("add", (1, "a"), None, "ab5, D")), ("amend", ("change", (2, "a"), ((1, "a"), (1, "a")), "D")),
            ("amend", ("strike", (2, "a"), (1, "a"))), ("paper", -2, (0, 1), (), 0), ("sign", "x"), ("set off",), ("pay", "ab", 3),
            ("move", "x", "a", ("take", 1)), ("rule",)))

    def test_any_text(self):
        for text in ("", " ", "  ", " D", "D ", "no pact", "amend add 1a - D", "-", ",", "a  b   c ", "~!#$&'()*+", "\\", "\"'", "`{}`"):
            for amendment in (("add", (1, "a"), None, text), ("add", (2, "a"), (1, "b"), text), ("change", (5, "f"), ((1, "a"),), text)):
                line, = write_deeds([("amend", amendment)])
                self.assertTrue(line.endswith(" " + text) and line.count(" ") == 4 + text.count(" "))
                self.assertEqual(read_deeds([line]), (("amend", amendment),))

    def test_bad_lines(self):
        for line in BAD_LINES:
            self.raises(BadLine, {"number": 0}, read_deeds, [line])
            self.raises(BadLine, {"number": 2}, read_deeds, ["rule", "set off", line, "", "pay aa 1"])
        self.raises(BadLine, {"number": 1}, read_deeds, ["move lease world rounds 3", "rule "])

    def test_lines_by_chance(self):
        chance = random.Random(181)
        lines = [line for _, line in DEEDS] + ["paper 0 1 2 3", "pay ab 10", "move x a take 1", "amend strike 1a 2b"]
        seen = {True: 0, False: 0}
        for _ in range(20000):
            line = list(chance.choice(lines))
            for _ in range(chance.choice([1, 1, 2])):
                at = chance.randrange(len(line) + 1)
                line[at:at + chance.choice([0, 1, 1])] = chance.choice(["", " ", "-", ",", "0", "1", "a", "g", "x", "Z"])
            line = "".join(line)
            fits = any(re.fullmatch(form, line) for form in FORMS)
            if fits:
                self.assertEqual(write_deeds(read_deeds([line])), (line,))
            else:
                self.raises(BadLine, {"number": 0}, read_deeds, [line])
            seen[fits] += 1
        self.assertGreater(min(seen.values()), 2000)

    def test_books_of_houses(self):
        chance = random.Random(182)
        for _ in range(20):
            purses = {"a": 3, "b": 1, "c": 0}
            house = replay(purses, [])
            for _ in range(60):
                try:
                    house.do(some_deed(chance, house))
                except ValueError:
                    pass
            again = replay(purses, read_deeds(write_deeds(house.deeds())))
            self.assertEqual(told_by_house(again), told_by_house(house))


if __name__ == "__main__":
    unittest.main()
