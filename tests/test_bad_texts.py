"""read_script of what is not the text of a script (point 15)."""

import re
import unittest

from acting import S, S_TEXT
from remadeclasses.errors import BadText
from remadeclasses.scripts import script_error
from remadeclasses.texts import read_script, script_text
from samples import LONGER, NO_TUPLES, RICH, RICH_TEXT

WORD = "[a-z]{1,8}"
HEAD = "words go\nstage\n"
CLASS = HEAD + "class a\n"


def body_form(row):
    """A form of bodies of such rows."""
    return r"\{ (?:" + row + "(?: ; " + row + r"){0,3} )?\}"


def part_form(target):
    """A form of the parts whose bodies have such targets."""
    row = "(?:(?:say|tell|keep|drop) W|put W W|(?:do|give) " + target + ")"
    body = body_form(row)
    for _ in range(2):
        body = body_form("(?:" + row + "|if (?:has W|is W W|kin W|guest W|told W) " + body + " " + body + ")")
    return re.compile("(W) (?:value W|(?:does|looks) ".replace("W", WORD) + body.replace("W", WORD) + ")")


PARTS = part_form("(?:(?:own|up) W|(?:past|base) W W)")
STEP_PARTS = part_form("(?:own W|(?:past|base) W W)")
STEPS = re.compile(
    "(?:class W(?: W){0,3}|cut W W|forget W|lead W|rebase W(?: W){0,3}|fill W W W|clear W W)".replace("W", WORD),
)


class Lines:
    """Looks at a text line by line, by patterns."""

    def __init__(self):
        self.words = None
        self.offers = []
        # For each stage the numbers and the last words of the parts of its steps.
        self.stages = []

    def takes(self, line):
        """Whether some text goes on with this line."""
        if self.words is None:
            self.words = line.split(" ")[1:]
            return bool(re.fullmatch("words {0}(?: {0})?".format(WORD), line)) and self.words == sorted(set(self.words))
        if line == "stage":
            self.stages.append([])
            return len(self.stages) <= 3
        if not self.stages:
            self.offers.append(tuple(line.split(" ")[1:]))
            right = re.fullmatch("offer {0} (?:{0} (?:call|read)|born make)".format(WORD), line)
            return bool(right) and self.offers == sorted(set(self.offers)) and len(self.offers) <= 8
        if line.startswith("  "):
            part = PARTS.fullmatch(line[2:])
            if not part or not self.stages[-1] or self.stages[-1][-1] is None:
                return False
            self.stages[-1][-1].append(part[1])
            return self.stages[-1][-1] == sorted(set(self.stages[-1][-1])) and len(self.stages[-1][-1]) <= 4
        self.stages[-1].append([] if line.startswith("class ") else None)
        ahead = re.match("part " + WORD + " ", line)
        right = STEP_PARTS.fullmatch(line[ahead.end():]) if ahead else STEPS.fullmatch(line)
        return bool(right) and len(self.stages[-1]) <= 4


def wrong_line(text):
    """What BadText must tell of a text, None if it is that of a script."""
    lines = Lines()
    rows = text.split("\n")
    for at, line in enumerate(rows[:-1]):
        if not lines.takes(line):
            return at
    return None if rows[-1] == "" and lines.stages else len(rows) - 1


class BadCase(unittest.TestCase):
    def check(self, text, line):
        """This is the wrong line, None if there is none."""
        with self.subTest(text=text):
            if line is None:
                script = read_script(text)
                self.assertIsNone(script_error(script))
                self.assertEqual(script_text(script), text)
                return
            for _ in range(2):
                with self.assertRaises(BadText) as caught:
                    read_script(text)
                self.assertEqual(repr(caught.exception.line), repr(line))

    def check_looked(self, text):
        """The text is as wrong as the patterns tell."""
        self.check(text, wrong_line(text))

    def check_part(self, part, right=False, step=None):
        """A part that is wrong or right in a class, and in a step part if that is otherwise."""
        self.check(CLASS + "  " + part + "\n", None if right else 3)
        self.check(CLASS + "  a value w\n  b" + part[1:] + "\nlead a\n", None if right else 4)
        self.check(HEAD + "lead a\npart a " + part + "\n", None if (right if step is None else step) else 3)

    def check_body(self, body, right=False, step=None):
        """A body that is wrong or right."""
        self.check_part("n does " + body, right, step)
        self.check_part("n looks " + body, right, step)


class Texts(BadCase):
    def test_no_texts(self):
        lines = ("words go", "stage")
        for item in NO_TUPLES + ((), lines, list(lines), S, {"words": "go"}, b"words go\nstage\n"):
            if not isinstance(item, str):
                self.check(item, -1)

    def test_lines_lack(self):
        self.check("", 0)
        self.check("words go\n", 1)
        self.check("words go\noffer man act call\n", 2)
        self.check("words go\noffer man act call\noffer man act read\n", 3)
        self.check("words go\noffer man act call\noffer man act read\nstage\n", None)

    def test_a_last_line_without_a_line_feed(self):
        self.check("words go", 0)
        self.check("words go\nstage", 1)
        self.check("words go\nstage\nlead a", 2)
        self.check("words go\nstage\n ", 2)
        self.check("words go\nstage\nlead a\n}", 3)
        self.check("w", 0)
        # A line ahead that is wrong goes first.
        self.check("words go\nstages\nlead a", 1)

    def test_cut_at_each_place(self):
        for text in (S_TEXT, RICH_TEXT):
            for at in range(len(text) + 1):
                told = text[:at]
                lines = told.count("\n")
                whole = told.endswith("\n") and "stage\n" in told
                self.check(told, None if whole else lines)
                self.check_looked(told)

    def test_empty_lines(self):
        self.check("\n", 0)
        self.check("\n" + S_TEXT, 0)
        self.check("words go\n\nstage\n", 1)
        self.check(HEAD + "\n", 2)
        self.check(CLASS + "\n", 3)
        self.check(S_TEXT + "\n", S_TEXT.count("\n"))
        self.check("\n" * 4000, 0)

    def test_other_signs(self):
        for sign in "\t\r~A_-0.#\u00e9\u00a0\u2028\x0b\x0c\x00":
            for at in (0, 3, 5, 8, 9, 14, 15, 21, 22, 23, 30, 33):
                text = "words go\nstage\nclass a\n  n does { say w }\n"
                self.check(text[:at] + sign + text[at:], text[:at].count("\n"))


class Changed(BadCase):
    """Each line of a text changed, left out, doubled or put in."""

    TEXTS = (S_TEXT, RICH_TEXT)

    def test_left_out(self):
        for text in self.TEXTS:
            lines = text.splitlines(True)
            for at in range(len(lines)):
                self.check_looked("".join(lines[:at] + lines[at + 1:]))
        self.check(S_TEXT[len("words go\n"):], 0)

    def test_doubled_and_put_in(self):
        for text in self.TEXTS:
            lines = text.splitlines(True)
            for at in range(len(lines) + 1):
                more = ["stage\n", "words go\n", "offer z z call\n", "  z value w\n", "lead a\n"]
                for line in sorted(set(lines)) + more:
                    self.check_looked("".join(lines[:at] + [line] + lines[at:]))

    def test_two_lines_for_one_another(self):
        for text in self.TEXTS:
            lines = text.splitlines(True)
            for at in range(len(lines) - 1):
                self.check_looked("".join(lines[:at] + [lines[at + 1], lines[at]] + lines[at + 2:]))

    def test_each_word(self):
        others = ("z", "", "A", LONGER, "{", "}", ";", "up", "if", "own", "does", "value", "stage", "read")
        for text in self.TEXTS:
            lines = text.splitlines()
            for at, line in enumerate(lines):
                words = line.split(" ")
                for w in range(len(words)):
                    changes = [words[:w] + words[w + 1:], words[:w] + words[w:w + 1] + words[w:]]
                    changes += [words[:w] + [other] + words[w + 1:] for other in others]
                    changes += [words[:w] + [other] + words[w:] for other in others]
                    for change in changes:
                        told = lines[:at] + [" ".join(change)] + lines[at + 1:]
                        self.check_looked("\n".join(told) + "\n")

    def test_blanks(self):
        for text in self.TEXTS:
            lines = text.splitlines()
            for at, line in enumerate(lines):
                for change in (
                    line + " ", " " + line, "  " + line, line.replace(" ", "  ", 1), line.replace(" ", "", 1),
                    line.strip(),
                    line[:-1], line + line[-1:],
                ):
                    if change != line:
                        self.check_looked("\n".join(lines[:at] + [change] + lines[at + 1:]) + "\n")


class Heads(BadCase):
    def test_words(self):
        for words in (
            "", "words", "words ", "words  go", " words go", "words go ", "words go  stop", "words stop go",
            "words go go",
            "words go stop to", "words Go", "words go1", "words " + LONGER, "word go", "go", "words\tgo", "words {",
            "stage",
            "offer man act call",
        ):
            self.check(words + "\nstage\n", 0)
        self.check("words go\nwords go\nstage\n", 1)

    def test_offers(self):
        for offer in (
            "offer", "offer man", "offer man act", "offer man act calls", "offer man act make",
            "offer man act call now",
            "offer  man act call", "offer man act  call", "offer man act call ", " offer man act call",
            "offers man act call",
            "offer Man act call", "offer man Act call", "offer man act Call", "offer " + LONGER + " act call",
            "offer man born", "offer man act hold", "offer man act", "lead a", "class a", "  n value w", "words go",
            "stages",
            "stage ", " stage", "stage stage", "",
        ):
            self.check("words go\n" + offer + "\nstage\n", 1)
            self.check("words go\noffer a a call\n" + offer + "\nstage\n", 2)

    def test_offers_ascend(self):
        right = ["a a call", "a a read", "a b call", "a born make", "b a call", "b a read", "b b call", "c a call"]
        lines = ["offer " + offer + "\n" for offer in right]
        self.check("words go\n" + "".join(lines) + "stage\n", None)
        for at in range(len(lines)):
            for other in range(at):
                told = lines[:at] + [lines[other]] + lines[at + 1:]
                self.check("words go\n" + "".join(told) + "stage\n", at + 1)
        # The ninth is one too many.
        self.check("words go\n" + "".join(lines) + "offer z z call\nstage\n", 9)
        self.check("words go\nstage\noffer a a call\n", 2)

    def test_stages(self):
        for many in (1, 2, 3):
            self.check("words go\n" + "stage\n" * many, None)
            self.check("words go\n" + "stage\nlead a\n" * many, None)
        self.check("words go\n" + "stage\n" * 4, 4)
        self.check("words go\n" + "stage\nlead a\n" * 4, 7)
        for line in ("stage ", " stage", "  stage", "stages", "stage a", "Stage"):
            self.check(HEAD + line + "\n", 2)


class Steps(BadCase):
    def test_what_is_none(self):
        for step in (
            "", "a", "class", "class A", "class a b c d e", "class  a", "class a ", "class a  b", "classes a", "cut",
            "cut a",
            "cut a n m", "cut A n", "cut a N", "forget", "forget a b", "forget ", "lead", "lead a b", "lead 1",
            "rebase",
            "rebase a b c d e", "rebase ", "rebase a ", "fill", "fill a", "fill a n", "fill a n w w", "fill a n W",
            "clear",
            "clear a", "clear a n w", "part", "part a", "part a n", "part a n value", "part a n value w w",
            "part a n word w",
            "part a n does", "part A n value w", "part a N value w", "part a n value W", "part a n does w", "put n w",
            "say w",
            "make man", "{ }", " lead a", "lead a ", "lead  a", "Lead a", "next", "value", "fill a  n w",
        ):
            self.check(HEAD + step + "\n", 2)
            self.check(HEAD + "lead a\n" + step + "\nlead a\n", 3)

    def test_too_many(self):
        for line in ("lead a\n", "class a\n", "class a\n  n value w\n", "part a n does { }\n"):
            lines = line.count("\n")
            self.check(HEAD + line * 4, None)
            self.check(HEAD + line * 5, 2 + 4 * lines)
            self.check(HEAD + line * 4 + "stage\n" + line * 4, None)
            self.check(HEAD + line * 4 + "stage\n" + line * 5, 3 + 8 * lines)
        self.check(HEAD + "class a b b b\n", None)
        self.check(HEAD + "class a b b b b\n", 2)
        self.check(HEAD + "rebase a b b b\n", None)
        self.check(HEAD + "rebase a b b b b\n", 2)

    def test_parts_of_no_class(self):
        part = "  n value w\n"
        self.check("words go\n" + part, 1)
        self.check(HEAD + part, 2)
        for step in ("lead a\n", "part a n value w\n", "cut a n\n", "rebase a\n"):
            self.check(HEAD + step + part, 3)
            self.check(CLASS + step + part, 4)
        self.check(CLASS + "stage\n" + part, 4)
        self.check(CLASS + part + "lead a\n" + part, 5)

    def test_parts_ascend(self):
        self.check(CLASS + "".join("  " + n + " value w\n" for n in "abcd"), None)
        self.check(CLASS + "".join("  " + n + " value w\n" for n in "abcde"), 7)
        for ns, line in (("aa", 4), ("ba", 4), ("acb", 5), ("abca", 6), ("abb", 5)):
            self.check(CLASS + "".join("  " + n + " value w\n" for n in ns), line)
            self.check(CLASS + "".join("  " + n + " does { }\n" for n in ns), line)
        # Those of the next class begin anew.
        self.check(CLASS + "  b value w\nclass a\n  a value w\n", None)

    def test_parts(self):
        for part in (
            "n", "n value", "n value w w", "n value W", "n words w", "n does", "n looks", "n does w", "n value { }",
            "n does { } ", "n  value w", "n value  w", "n value w ", "n does  { }", "n value " + LONGER,
            "n does { } { }",
            "n does { } w", "n does{ }", "n Does { }", "n value }",
        ):
            self.check_part(part)
        self.check_part("n value w", True)
        self.check_part("n value value", True)
        for line in (
            " n value w", "   n value w", "n value w", "\tn value w", "  n value w ", "  N value w", "   ", "  ",
        ):
            self.check(CLASS + line + "\n", 3)


class Bodies(BadCase):
    def test_braces(self):
        for body in (
            "", "{", "}", "{}", "{  }", "{ ", "{ } }", "{ { }", "{ { } }", "{ say w", "say w }", "say w", "{ say w } }",
            "{say w }", "{ say w}", "{ }{ }", "( )", "{ ; }", "{ say w ; }", "{ ; say w }", "{ say w ; ; say w }",
            "{ say w say w }", "{ say w; say w }", "{ say w ;say w }", "{ say w } say w", "{ say w } ; { say w }",
            "} {",
        ):
            self.check_body(body)
        self.check_body("{ }", True)
        self.check_body("{ say w }", True)

    def test_rows(self):
        for row in (
            "say", "say w w", "say W", "say { }", "tell", "tell n n", "put", "put n", "put n w w", "keep", "keep n n",
            "drop",
            "drop n n", "do", "do n", "do own", "do own n n", "do past n", "do past c n n", "do base n",
            "do base c n n",
            "do owns n", "give", "give n", "give own", "say  w", "told go", "own n", "if", "if n", "if has", "if has n",
            "if has n { }", "if has n { } { } { }", "if has n say w { }", "if has n { } say w", "if is n { } { }",
            "if is n w w { } { }", "if own n { } { }", "if kin { } { }", "if guest { } { }", "if told { } { }",
            "if has N { } { }", "if has n { } ; { }", "if { } { }", "else", "class a", "says w", "Say w", "1",
            "{ say w }",
        ):
            self.check_body("{ " + row + " }")
            self.check_body("{ say w ; " + row + " }")
            self.check_body("{ " + row + " ; say w }")
            self.check_body("{ if has n { " + row + " } { } }")
            self.check_body("{ if has n { } { if has n { } { " + row + " } } }")

    def test_too_many_rows(self):
        four = " ; ".join(["say w"] * 4)
        five = four + " ; say w"
        self.check_body("{ " + four + " }", True)
        self.check_body("{ " + five + " }")
        for form in ("{ if has n { * } { } }", "{ if has n { } { * } }", "{ if has n { if has n { * } { } } { } }"):
            self.check_body(form.replace("*", four), True)
            self.check_body(form.replace("*", five))

    def test_ifs_too_deep(self):
        body = "{ }"
        for nest in range(1, 6):
            body = "{ if has n " + body + " { } }"
            self.check_body(body, nest <= 2)
        self.check_body("{ if has n { } { if has n { } { if has n { } { } } } }")
        self.check_body("{ if has n { } { } ; if has n { } { } ; if has n { } { } }", True)
        # So deep that no reader should follow.
        self.check_part("n does " + "{ if has n " * 300)
        self.check_part("n does " + "{ if has n " * 300 + "{ } " + "{ } } " * 300)

    def test_up_within_a_part_line(self):
        for body in (
            "{ do up n }", "{ give up n }", "{ say w ; do up n }", "{ if has n { do up n } { } }",
            "{ if has n { } { if has n { } { give up up } } }",
        ):
            self.check_body(body, True, False)
        # A word up is none.
        for body in (
            "{ say up }", "{ do own up }", "{ do past up up }", "{ give base up up }", "{ if is up up { } { } }",
        ):
            self.check_body(body, True)
        self.check_body("{ do up }")
        self.check_body("{ do up n n }")


class Rich(BadCase):
    def test_it_is_right(self):
        self.assertEqual(script_text(RICH), RICH_TEXT)
        self.assertIsNone(wrong_line(RICH_TEXT))
        self.assertIsNone(wrong_line(S_TEXT))


if __name__ == "__main__":
    unittest.main()
