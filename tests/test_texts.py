import re
import unittest
from random import Random

from dragtold.errors import DragError
from dragtold.setups import Listener, sample
from dragtold.texts import read_listener, text_of
from tests.helpers import random_listener, refusal, same_fields

SIMPLE = """states 2
on 1
rule * enter * * * > 1
rule * leave * * * > 0
rule * drop * * * > 0
rule * end * * * > 0
"""

NUMBER = r"(?:0|[1-9][0-9]*)"
FIRST = re.compile(rf"states {NUMBER}")
SECOND = re.compile(rf"on(?: {NUMBER})*")
RULE = re.compile(
    rf"rule (?:\*|{NUMBER}) (?:\*|enter|leave|over|drop|end) (?:\*|outside|inside|zone) (?:\*|yes|no)"
    rf" (?:\*|none|outside|inside) > {NUMBER}")


def reckoned_refusal(text):
    """The reason for which a text is refused, by the words of the document; None for one of a listener."""
    rows = text.split("\n")
    if rows[-1] == "":
        rows.pop()
    for at, row in enumerate(rows):
        pattern = FIRST if at == 0 else SECOND if at == 1 else RULE
        if not pattern.fullmatch(row):
            return f"line {at}"
    if len(rows) < 2 or not text.endswith("\n"):
        return "line " + str(text.count("\n"))
    states = int(rows[0].split()[1])
    on = [int(word) for word in rows[1].split()[1:]]
    if not 1 <= states <= 60 or len(rows) > 1202 or on != sorted(set(on)) or any(state >= states for state in on):
        return "no listener"
    for row in rows[2:]:
        words = row.split(" ")
        if any(int(word) >= states for word in (words[1], words[7]) if word != "*"):
            return "no listener"
    return None


class TextOfTest(unittest.TestCase):
    def test_simple(self):
        self.assertEqual(text_of(sample("simple")), SIMPLE)

    def test_each_part(self):
        rules = [(0, "enter", "outside", True, "none", 59), (59, "over", "inside", False, "outside", 10),
                 (None, "end", "zone", None, "inside", 0), (None, None, None, None, None, 0)]
        self.assertEqual(text_of(Listener(60, [59, 0, 10], rules)), (
            "states 60\non 0 10 59\nrule 0 enter outside yes none > 59\nrule 59 over inside no outside > 10\n"
            "rule * end zone * inside > 0\nrule * * * * * > 0\n"))

    def test_the_least_one(self):
        self.assertEqual(text_of(Listener(1, [], [])), "states 1\non\n")

    def test_arguments_stay(self):
        listener = sample("counting")
        text_of(listener)
        same_fields(self, listener, sample("counting"))


class ReadListenerTest(unittest.TestCase):
    def test_there_and_back(self):
        for name in ("simple", "counting", "latest", "over", "related"):
            same_fields(self, read_listener(text_of(sample(name))), sample(name))
        random = Random(8)
        for _ in range(60):
            listener = random_listener(random, random.randrange(1, 61), random.randrange(60))
            text = text_of(listener)
            self.assertIsNone(reckoned_refusal(text))
            same_fields(self, read_listener(text), listener)
            self.assertEqual(text_of(read_listener(text)), text)

    def test_sixty_states_and_1200_rules(self):
        listener = random_listener(Random(9), 60, 1200)
        text = text_of(listener)
        same_fields(self, read_listener(text), listener)
        self.assertEqual(refusal(read_listener, text + "rule * * * * * > 0\n"), "no listener")
        self.assertEqual(refusal(read_listener, text + "rule * * * * * > 0"), "line 1202")
        self.assertEqual(refusal(read_listener, text + "rule * * * * * > \n"), "line 1202")

    def test_values_are_of_their_kinds(self):
        listener = read_listener("states 3\non 0 2\nrule 1 * * no none > 2\nrule * * * yes * > 0\n")
        self.assertEqual(listener.rules, [(1, None, None, False, "none", 2), (None, None, None, True, None, 0)])
        self.assertIs(listener.rules[0][3], False)
        self.assertIs(listener.rules[1][3], True)
        self.assertEqual((listener.states, listener.on), (3, [0, 2]))
        self.assertIs(type(listener), Listener)

    def test_lines_are_counted_from_0(self):
        rows = SIMPLE.split("\n")[:-1]
        for at in range(len(rows)):
            wrong = rows[:at] + ["nothing"] + rows[at + 1:]
            self.assertEqual(refusal(read_listener, "\n".join(wrong) + "\n"), f"line {at}")

    def test_the_first_line_that_is_wrong(self):
        self.assertEqual(refusal(read_listener, "states 2\nrule\nrule\n"), "line 1")
        self.assertEqual(refusal(read_listener, "states x\non 9 8\nrule\n"), "line 0")
        self.assertEqual(refusal(read_listener, "states 99\non 9 8\nrule * * * * * > 7\nrule"), "line 3")

    def test_lines_that_are_lacking(self):
        for text, line in [("", 0), ("states 2", 0), ("states 2\n", 1), ("states 2\non", 1), ("states 2\non 1", 1),
                           ("\n", 0), ("states 2\n\n", 1), ("on\n", 0), ("states 2\nrule * * * * * > 1\n", 1),
                           ("states 2\non\n\n", 2), ("states 2\non\nrule * * * * * > 1", 2), (SIMPLE + "\n", 6),
                           ("\n" + SIMPLE, 0), (SIMPLE[:-1], 5), ("states 99", 0), ("states 99\n", 1)]:
            self.assertEqual(refusal(read_listener, text), f"line {line}", text)
            self.assertEqual(reckoned_refusal(text), f"line {line}")

    def test_first_lines(self):
        for line in ("states", "states ", "states  2", " states 2", "states 2 ", "states 02", "states 00", "states -1",
                     "states +2", "states 2.", "states two", "states 2 2", "State 2", "states\t2", "states 2\r",
                     "states 1_0", "states \u0663", "states \u00b2", "", "on", "states *"):
            self.assertEqual(refusal(read_listener, line + "\non\n"), "line 0", line)

    def test_second_lines(self):
        for line in ("", "on ", " on", "on  1", "on 1 ", "on 01", "on 00", "on 0 -1", "on *", "on 1,2", "on\t1", "on1",
                     "On 1", "off", "on 1\r", "on on", "on 1  2", "on \u0661", "states 2", "1"):
            self.assertEqual(refusal(read_listener, f"states 3\n{line}\n"), "line 1", line)

    def test_rules(self):
        for line in ("rule", "rule ", "rule * * * * *", "rule * * * * * >", "rule * * * * * > ", "rule * * * * * > *",
                     "rule * * * * * > 0 0", "rule * * * * > 0", "rule * * * * * * > 0", "rule * * * * * 0",
                     "rule * * * * * = 0", "rule * * * * * >0", " rule * * * * * > 0", "rule * * * * * > 0 ",
                     "rule  * * * * * > 0", "rule * *  * * * > 0", "rule * * * * * > 00", "rule 00 * * * * > 0",
                     "rule -1 * * * * > 0", "rule x * * * * > 0", "rule * Enter * * * > 0", "rule * none * * * > 0",
                     "rule * enter none * * > 0", "rule * enter gone * * > 0", "rule * * * True * > 0",
                     "rule * * * 1 * > 0", "rule * * * None * > 0", "rule * * * * zone > 0", "rule * * * * yes > 0",
                     "rule * * * * * > 0\r", "rules * * * * * > 0", "Rule * * * * * > 0", "on", "states 3",
                     "rule * * * * * > \u0660", "rule None * * * * > 0", "rule * ** * * * > 0", "rule 0 0 * * * > 0"):
            self.assertEqual(refusal(read_listener, f"states 3\non\n{line}\n"), "line 2", line)
            ahead = "rule 1 drop zone no none > 2\n"
            self.assertEqual(refusal(read_listener, f"states 3\non\n{ahead}{line}\n{ahead}"), "line 3", line)

    def test_right_lines_of_no_listener(self):
        huge = "9" * 5000
        for text in ("states 0\non\n", "states 61\non\n", f"states {huge}\non\n", "states 2\non 2\n",
                     "states 2\non 1 0\n", "states 2\non 1 1\n", f"states 2\non {huge}\n", f"states 2\non 0 {huge}\n",
                     "states 2\non\nrule 2 * * * * > 0\n", "states 2\non\nrule * * * * * > 2\n",
                     f"states 2\non\nrule {huge} * * * * > 0\n", f"states 2\non\nrule * * * * * > {huge}\n",
                     "states 1000000000\non\n", f"states 1{'0' * 20}\non\n", f"states 2\non 1{'0' * 20}\n"):
            self.assertEqual(refusal(read_listener, text), "no listener", text[:60])

    def test_a_sign_put_in_left_out_or_changed(self):
        random = Random(10)
        told = {}
        for _ in range(4000):
            listener = random_listener(random, random.choice((1, 2, 11, 60)), random.randrange(4))
            text = text_of(listener)
            at = random.randrange(len(text))
            sign = random.choice("01 9*>\n-\treson")
            changed = random.choice((text[:at] + text[at + 1:], text[:at] + sign + text[at:],
                                     text[:at] + sign + text[at + 1:]))
            reason = reckoned_refusal(changed)
            told[reason] = told.get(reason, 0) + 1
            self.assertEqual(refusal(read_listener, changed), reason, changed)
            if reason is None:
                self.assertEqual(text_of(read_listener(changed)), changed)
        self.assertTrue({None, "no listener", "line 0", "line 1", "line 2", "line 3"} <= set(told), told)

    def test_a_word_or_a_line_put_in_left_out_or_changed(self):
        random = Random(11)
        words = ["*", "0", "1", "7", "enter", "end", "inside", "zone", "none", "yes", "no", ">", "rule", "on", "states", ""]
        for _ in range(2000):
            rows = text_of(random_listener(random, 8, 3)).split("\n")
            at = random.randrange(len(rows))
            action = random.randrange(5)
            if action == 0:
                rows.pop(at)
            elif action == 1:
                rows.insert(at, random.choice(rows))
            else:
                parts = rows[at].split(" ")
                place = random.randrange(len(parts))
                middle = [[], [random.choice(words)], [random.choice(words), parts[place]]][action - 2]
                rows[at] = " ".join(parts[:place] + middle + parts[place + 1:])
            changed = "\n".join(rows)
            self.assertEqual(refusal(read_listener, changed), reckoned_refusal(changed), changed)

    def test_the_error(self):
        try:
            read_listener("states 2\noff\n")
        except DragError as error:
            self.assertEqual(error.reason, "line 1")
        else:
            self.fail("not refused")


if __name__ == "__main__":
    unittest.main()
