"""Texts: a script as text, and the script whose text it is."""

from remadeclasses.bounds import MOST_NEST, MOST_STAGES, MOST_STEPS
from remadeclasses.errors import BadText
from remadeclasses.forms import ROW_FORMS, TARGET_FORMS, TEST_FORMS, is_offers, is_words
from remadeclasses.scripts import step_error


class Unread(Exception):
    """What was read has none of the forms that may stand here."""


class Tokens:
    """What is left of a line, in which all stands with one blank between."""

    def __init__(self, line):
        # The last of these is the next one.
        self.left = line.split(" ")[::-1]

    def take(self):
        """Take the next one."""
        if len(self.left) == 0:
            raise Unread()
        return self.left.pop()

    def take_all(self):
        """Take all that is left."""
        told = tuple(self.left[::-1])
        self.left = []
        return told

    def takes(self, sign):
        """Take the next one if it is this sign; tells whether it is."""
        if self.left[-1:] != [sign]:
            return False
        self.left.pop()
        return True


def script_text(script):
    """The text of a script."""
    words, offers, stages = script
    lines = [line_of("words", words)]
    lines.extend([line_of("offer", offer) for offer in offers])
    for stage in stages:
        lines.append("stage")
        for step in stage:
            lines.extend(step_lines(step))
    return "".join([line + "\n" for line in lines])


def line_of(head, words):
    """These words in a line."""
    return " ".join((head,) + words)


def step_lines(step):
    """The lines of a step."""
    if step[0] == "class":
        return [line_of("class", (step[1],) + step[2])] + ["  " + part_text(part) for part in step[3]]
    if step[0] == "part":
        return [line_of("part", (step[1], part_text(step[2])))]
    if step[0] == "rebase":
        return [line_of("rebase", (step[1],) + step[2])]
    return [" ".join(step)]


def part_text(part):
    """The text of a part."""
    n, sort, what = part
    return " ".join((n, sort, what if sort == "value" else body_text(what)))


def body_text(body):
    """The text of a body."""
    if len(body) == 0:
        return "{ }"
    return "{ " + " ; ".join([row_text(row) for row in body]) + " }"


def row_text(row):
    """The text of a row."""
    if row[0] == "if":
        return " ".join((line_of("if", row[1]), body_text(row[2]), body_text(row[3])))
    if row[0] == "do" or row[0] == "give":
        return line_of(row[0], row[1])
    return " ".join(row)


def read_script(value):
    """The script whose text any value is."""
    if not isinstance(value, str):
        raise BadText(-1)
    lines = value.split("\n")
    # What stands behind the last line feed is a line without one.
    rest = lines.pop()
    script = ((), (), ())
    for at, line in enumerate(lines):
        try:
            script = with_line(script, line)
        except Unread:
            raise BadText(at) from None
    if rest != "" or len(script[2]) == 0:
        raise BadText(len(lines))
    return script


def with_line(script, line):
    """What was read of a script, with one more line."""
    words, offers, stages = script
    if len(words) == 0:
        return read_words(line), (), ()
    if line == "stage" and len(stages) < MOST_STAGES:
        return words, offers, stages + ((),)
    if len(stages) == 0:
        return words, with_offer(offers, line), ()
    return words, offers, stages[:-1] + (with_step_line(stages[-1], line),)


def read_words(line):
    """The words that outsiders can tell."""
    left = Tokens(line)
    if not left.takes("words"):
        raise Unread()
    words = left.take_all()
    if not is_words(words):
        raise Unread()
    return words


def with_offer(offers, line):
    """The offers, with one more line."""
    left = Tokens(line)
    if not left.takes("offer"):
        raise Unread()
    more = offers + (left.take_all(),)
    if not is_offers(more):
        raise Unread()
    return more


def with_step_line(steps, line):
    """The steps of a stage, with one more line: a step, or a part of the last class."""
    if line.startswith("  "):
        more = with_part(steps, Tokens(line[2:]))
    else:
        more = steps + (read_step(Tokens(line)),)
    if len(more) > MOST_STEPS or step_error(more[-1], ()) is not None:
        raise Unread()
    return more


def with_part(steps, left):
    """The steps of a stage, with one more part for the class that is the last of them."""
    if len(steps) == 0 or steps[-1][0] != "class":
        raise Unread()
    head, c, bases, parts = steps[-1]
    return steps[:-1] + ((head, c, bases, parts + (read_part(left),)),)


def read_step(left):
    """The step of a line, a class without parts; step_error looks at its words."""
    head = left.take()
    if head == "class":
        return head, left.take(), left.take_all(), ()
    if head == "rebase":
        return head, left.take(), left.take_all()
    if head == "part":
        return head, left.take(), read_part(left)
    return (head,) + left.take_all()


def read_part(left):
    """The part at the end of a line; step_error looks at its words."""
    n = left.take()
    sort = left.take()
    if sort == "value":
        return (n, sort) + left.take_all()
    body = read_body(left, 0)
    if len(left.take_all()) > 0:
        raise Unread()
    return n, sort, body


def read_body(left, nest):
    """A body that lies in so many ifs."""
    # Otherwise a long line would be read deeper and deeper.
    if nest > MOST_NEST or not left.takes("{"):
        raise Unread()
    if left.takes("}"):
        return ()
    rows = [read_row(left, nest)]
    while left.takes(";"):
        rows.append(read_row(left, nest))
    if not left.takes("}"):
        raise Unread()
    return tuple(rows)


def read_row(left, nest):
    """A row of a body that lies in so many ifs."""
    head = left.take()
    return read_form(left, head, ROW_FORMS.get(head), nest)


def read_form(left, head, kinds, nest):
    """What begins with this head, if some form does; these kinds stand behind it."""
    if kinds is None:
        raise Unread()
    items = [head]
    for kind in kinds:
        items.append(read_item(left, kind, nest))
    return tuple(items)


def read_item(left, kind, nest):
    """What a form has under this name."""
    if kind == "word":
        return left.take()
    if kind == "any":
        return read_body(left, nest + 1)
    head = left.take()
    kinds = TARGET_FORMS.get(head) if kind == "target" else TEST_FORMS.get(head)
    return read_form(left, head, kinds, nest)
