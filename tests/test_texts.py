"""script_text and read_script: the text of a script (point 15)."""

import unittest

from acting import S, S_TEXT, does, klass, looks, script_of, value
from remadeclasses.scripts import script_error
from remadeclasses.texts import read_script, script_text
from samples import LONG, RICH, RICH_TEXT, TARGETS, TESTS

# Words that stand in a text as the first of a line, a part or a row, too.
SIGNS = (
    "base", "call", "class", "clear", "cut", "do", "does", "drop", "fill", "forget", "give", "guest", "has", "if", "is",
    "keep", "kin", "lead", "looks", "make", "offer", "own", "part", "past", "put", "read", "rebase", "say", "stage",
    "tell", "told", "up", "value", "words",
)


class TextCase(unittest.TestCase):
    def check(self, script, text):
        """This is the text of the script, which is read again."""
        self.assertIsNone(script_error(script))
        ahead = repr(script)
        for _ in range(2):
            self.assertEqual(script_text(script), text)
            self.assertIs(type(script_text(script)), str)
            self.assertEqual(repr(read_script(text)), ahead)
        self.assertEqual(repr(script), ahead)

    def check_steps(self, *pairs):
        """Steps with their lines, alone and side by side."""
        for step, lines in pairs:
            with self.subTest(step=step):
                self.check(script_of((), (step,)), "words go stop\nstage\n" + lines)
        for k in range(len(pairs) - 2):
            steps, lines = zip(*pairs[k:k + 3])
            self.check(script_of((), steps, (), steps), "words go stop\n" + "stage\n".join(
                ["", "".join(lines), "", "".join(lines)],
            ))

    def check_rows(self, *pairs):
        """Rows with their texts, alone and side by side, in the body of a class."""
        for k in range(len(pairs)):
            rows, texts = zip(*pairs[k:k + 4])
            for many in range(1, len(rows) + 1):
                body, text = rows[:many], "{ " + " ; ".join(texts[:many]) + " }"
                with self.subTest(body=body):
                    for sort in ("does", "looks"):
                        self.check_steps(
                            (("class", "c", (), (("n", sort, body),)), "class c\n  n " + sort + " " + text + "\n"),
                        )


class Documents(TextCase):
    def test_the_examples(self):
        self.check(S, S_TEXT)
        script = (("go",), (("man", "greet", "call"),), ((("class", "man", (), (
            ("born", "does", (("put", "name", "adam"),)),
            ("greet", "does", (("if", ("has", "name"), (("tell", "name"),), ()),)),
        )),),))
        self.check(script, (
            "words go\noffer man greet call\nstage\nclass man\n  born does { put name adam }\n"
            "  greet does { if has name { tell name } { } }\n"
        ))

    def test_everything(self):
        self.check(RICH, RICH_TEXT)


class Heads(TextCase):
    def test_words(self):
        for words in (
            ("go",), ("go", "stop"), ("a", "b"), (LONG,), ("a", LONG), ("stage", "words"), ("words",), ("offer",),
        ):
            self.check((words, (), ((),)), "words " + " ".join(words) + "\nstage\n")

    def test_offers(self):
        for offers, text in (
            ((("man", "act", "call"),), "offer man act call\n"),
            ((("man", "born", "call"), ("man", "born", "make"), ("man", "born", "read")),
             "offer man born call\noffer man born make\noffer man born read\n"),
            ((("a", "b", "read"), ("a", "c", "call"), ("b", "a", "call")),
             "offer a b read\noffer a c call\noffer b a call\n"),
            ((("offer", "offer", "call"), ("stage", "words", "read")),
             "offer offer offer call\noffer stage words read\n"),
        ):
            self.check((("go",), offers, ((),)), "words go\n" + text + "stage\n")

    def test_stages(self):
        for many in (1, 2, 3):
            self.check(script_of((), *[()] * many, words=("go",)), "words go\n" + "stage\n" * many)
        self.check(script_of((), (), (("lead", "a"),), words=("go",)), "words go\nstage\nstage\nlead a\n")
        script = script_of((), (("lead", "a"),) * 4, (), words=("go",))
        self.check(script, "words go\nstage\n" + "lead a\n" * 4 + "stage\n")


class Steps(TextCase):
    def test_each_form(self):
        self.check_steps(
            (("cut", "a", "n"), "cut a n\n"),
            (("forget", "a"), "forget a\n"),
            (("lead", "a"), "lead a\n"),
            (("rebase", "a", ()), "rebase a\n"),
            (("rebase", "a", ("b",)), "rebase a b\n"),
            (("rebase", "a", ("b", "c", "b")), "rebase a b c b\n"),
            (("fill", "a", "n", "w"), "fill a n w\n"),
            (("clear", "a", "n"), "clear a n\n"),
        )

    def test_classes(self):
        self.check_steps(
            (("class", "a", (), ()), "class a\n"),
            (("class", "a", ("b",), ()), "class a b\n"),
            (("class", "a", ("b", "b", "a"), ()), "class a b b a\n"),
            (("class", "a", (), (("n", "value", "w"),)), "class a\n  n value w\n"),
            (("class", "a", ("b", "c"), (("m", "does", ()), ("n", "value", "w"), ("o", "looks", ()))),
             "class a b c\n  m does { }\n  n value w\n  o looks { }\n"),
            (klass("a", "", *[value(n, "w") for n in "klmn"]),
             "class a\n  k value w\n  l value w\n  m value w\n  n value w\n"),
            (klass("b", ""), "class b\n"),
            (klass("c", "", looks("n", ("say", "w"))), "class c\n  n looks { say w }\n"),
        )

    def test_parts(self):
        self.check_steps(
            (("part", "a", ("n", "value", "w")), "part a n value w\n"),
            (("part", "a", ("n", "does", ())), "part a n does { }\n"),
            (("part", "a", ("n", "looks", ())), "part a n looks { }\n"),
            (("part", "a", does("n", ("say", "w"), ("do", ("own", "n")))), "part a n does { say w ; do own n }\n"),
            (("part", "a", looks("n", ("if", ("told", "go"), (), (("tell", "m"),)))),
             "part a n looks { if told go { } { tell m } }\n"),
        )

    def test_long_words(self):
        self.check_steps(
            (("class", LONG, (LONG,) * 3, ((LONG, "value", LONG),)),
             "class {0} {0} {0} {0}\n  {0} value {0}\n".format(LONG)),
            (("fill", LONG, LONG, LONG), "fill {0} {0} {0}\n".format(LONG)),
            (("part", LONG, (LONG, "does", (("put", LONG, LONG),))),
             "part {0} {0} does {{ put {0} {0} }}\n".format(LONG)),
        )


class Rows(TextCase):
    def test_each_form(self):
        self.check_rows(
            (("say", "w"), "say w"), (("tell", "n"), "tell n"), (("put", "n", "w"), "put n w"), (("keep", "n"),
            "keep n"),
            (("drop", "n"), "drop n"), (("do", ("own", "n")), "do own n"), (("give", ("up", "n")), "give up n"),
            (("do", ("past", "c", "n")), "do past c n"), (("give", ("base", "c", "n")), "give base c n"),
        )

    def test_targets(self):
        self.check_rows(*[
            ((way, target), way + " " + " ".join(target)) for way in ("do", "give") for target in TARGETS
        ])

    def test_tests(self):
        self.check_rows(*[(("if", test, (), ()), "if " + " ".join(test) + " { } { }") for test in TESTS])

    def test_ifs(self):
        say, tell = ("say", "w"), ("tell", "n")
        inner = ("if", ("has", "n"), (say, tell), ())
        inner_text = "if has n { say w ; tell n } { }"
        self.check_rows(
            (("if", ("is", "n", "w"), (say,), ()), "if is n w { say w } { }"),
            (("if", ("is", "n", "w"), (), (say,)), "if is n w { } { say w }"),
            (("if", ("kin", "c"), (inner,), (inner, say)),
             "if kin c { " + inner_text + " } { " + inner_text + " ; say w }"),
            (("if", ("told", "go"), (say, inner, tell, inner), ()),
             "if told go { say w ; " + inner_text + " ; tell n ; " + inner_text + " } { }"),
        )

    def test_four_rows_everywhere(self):
        body, text = (("say", "w"),) * 4, "{ " + " ; ".join(["say w"] * 4) + " }"
        for _ in range(2):
            body = (("if", ("has", "n"), body, body),) * 4
            text = "{ " + " ; ".join(["if has n " + text + " " + text] * 4) + " }"
        parts = tuple((n, "does", body) for n in "klmn")
        lines = "".join("  " + n + " does " + text + "\n" for n in "klmn")
        stages = ((("class", "a", (), parts),) * 4,) * 3
        self.check((("go",), (), stages), "words go\n" + ("stage\n" + ("class a\n" + lines) * 4) * 3)


class Signs(TextCase):
    """Words that are like those by which lines, parts and rows begin."""

    def test_everywhere(self):
        for sign in SIGNS:
            rows = (
                ("say", sign), ("tell", sign), ("put", sign, sign), ("if", ("is", sign, sign), (
                    ("keep", sign), ("drop", sign), ("do", ("own", sign)), ("do", ("base", sign, sign)),
                ), (
                    ("give", ("past", sign, sign)), ("if", ("guest", sign), (), ()), ("if", ("kin", sign), (), ()),
                    ("if", ("has", sign), (), ()),
                )),
            )
            text = (
                "{{ say {0} ; tell {0} ; put {0} {0} ; "
                "if is {0} {0} {{ keep {0} ; drop {0} ; do own {0} ; do base {0} {0} }} "
                "{{ give past {0} {0} ; if guest {0} {{ }} {{ }} ; "
                "if kin {0} {{ }} {{ }} ; if has {0} {{ }} {{ }} }} }}"
            ).format(sign)
            self.check(
                ((sign,), ((sign, sign, "call"),), ((
                    ("class", sign, (sign, sign), ((sign, "does", rows),)), ("part", sign, (sign, "looks", rows)),
                    ("part", sign, (sign, "value", sign)), ("cut", sign, sign),
                ), (
                    ("forget", sign), ("lead", sign), ("rebase", sign, (sign,)), ("fill", sign, sign, sign),
                ), (("clear", sign, sign),))),
                "words {0}\noffer {0} {0} call\nstage\nclass {0} {0} {0}\n  {0} does {1}\npart {0} {0} looks {1}\n"
                "part {0} {0} value {0}\ncut {0} {0}\nstage\nforget {0}\nlead {0}\nrebase {0} {0}\nfill {0} {0} {0}\n"
                "stage\nclear {0} {0}\n".format(sign, text),
            )


if __name__ == "__main__":
    unittest.main()
