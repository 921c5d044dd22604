"""The whole program: what its modules tell of one another."""

import random
import unittest

from acting import NEXT, S, S_TEXT, does, klass, looks, script_of, value
from crowded import FULL, SPLIT_FULL
from remadeclasses.bounds import MOST_DEEDS
from remadeclasses.carries import fewest, with_steps
from remadeclasses.compare import alike
from remadeclasses.errors import BadDeed
from remadeclasses.faults import case_way, cases, each_case, is_safe, sure
from remadeclasses.plays import Play, play, standings_after
from remadeclasses.runs import elder, run_way, runs
from remadeclasses.scripts import bodies, script_error
from remadeclasses.standings import can_stand, standings, way_to
from remadeclasses.tables import shut_error, table_of
from remadeclasses.texts import read_script, script_text
from remadeclasses.worlds import World
from searching import case_of

# Dogs and pups that are led, pups that go up to what is no longer above them.
PUPS = script_of(
    ("dog act call", "dog born make", "dog see read", "pup act call", "pup born make", "pup see read"),
    (
        klass("dog", "", does("act", ("put", "n", "w")), looks("see", ("tell", "n"))),
        klass("pup", "dog", does("act", ("if", ("guest", "dog"), (("give", ("up", "act")),), (("keep", "m"),))),
              does("born", ("keep", "n"))),
    ),
    (
        klass("dog", "", does("act", ("if", ("is", "n", "stop"), (("drop", "n"),), (("tell", "m"),)))),
        ("rebase", "pup", ("dog",)), ("part", "pup", looks("see", ("tell", "m"))), ("clear", "dog", "n"),
    ),
    (("lead", "dog"), ("fill", "dog", "m", "x"), ("cut", "pup", "act"), ("forget", "dog")),
)

# A man whose act comes and goes behind an own field, and what he becomes.
OPEN = script_of(
    ("man act call", "man act read", "man born make", "man open call", "man shut call"),
    (klass("man", "", does("act", ("put", "n", "w"), ("tell", "none")), does("open", ("drop", "act")),
           does("shut", ("if", ("told", "go"), (("put", "act", "x"),), (("keep", "o"),)))),),
    (
        klass("man", "man", does("act", ("if", ("has", "n"), (("give", ("up", "act")),), ())),
              does("born", ("put", "n", "v"))),
        ("lead", "man"), ("clear", "man", "o"),
    ),
    (("part", "man", value("open", "w")), ("rebase", "man", ()), ("fill", "man", "n", "v")),
)

# Three kinds of things, of which one is a guest in one stage only.
GUESTS = script_of(
    ("cat born make", "dog born make", "dog meet call", "man born make", "man meet call"),
    (klass("cat", ""), klass("dog", "cat", does("meet", ("if", ("guest", "man"), (("put", "n", "w"),), ()))),
     klass("man", "", does("meet", ("if", ("guest", "cat"), (("keep", "n"),), (("do", ("own", "void")),))))),
    (klass("cat", "", value("born", "w")), ("lead", "cat"), ("part", "man", does("meet", ("if", ("guest", "cat"), (
        ("tell", "n"),), (("say", "w"),))))),
)

SCRIPTS = (S, PUPS, OPEN, GUESTS, FULL, SPLIT_FULL)


class WholeCase(unittest.TestCase):
    def done(self, script, history):
        """The world behind a history; its answers are those of a play."""
        world = World(script)
        for many, deed in enumerate(history):
            self.do(world, deed)
            self.assertEqual(world.history, history[:many + 1])
        self.assertEqual(World(script).would(history), play(script, history))
        self.assertEqual(tuple(world), standings_after(script, history))
        return world

    def do(self, world, deed):
        way, told = deed[0], deed[1:]
        if way in ("call", "ring"):
            return getattr(world, way)(*told[:-1], guest=told[-1])
        return world.go_on() if way == "next" else getattr(world, way)(*told)


class Ways(WholeCase):
    """The histories that are told, done in a world."""

    def test_to_standings(self):
        for script in SCRIPTS:
            for stage in range(len(script[2])):
                for standing in standings(script, stage)[::9]:
                    self.assertIs(can_stand(script, stage, standing), True)
                    world = self.done(script, way_to(script, stage, standing))
                    self.assertEqual(world.reached, stage)
                    self.assertIn(standing, world)

    def test_to_cases(self):
        for script in SCRIPTS:
            for case, history in each_case(script):
                for way in (history, case_way(script, case)):
                    world = self.done(script, way)
                    world.undo()
                    self.assertEqual(world.reached, case[0])
                    self.assertEqual(self.do(world, way[-1]), ("fault",) + case[2:])

    def test_to_runs(self):
        for script in SCRIPTS:
            for stage, place in runs(script):
                self.assertIn(place, bodies(script))
                world = self.done(script, run_way(script, stage, place))
                world.undo()
                self.assertEqual(world.reached, stage)

    def test_to_what_is_unlike(self):
        unlike = 0
        for script in (S, PUPS, OPEN, GUESTS):
            self.assertIsNone(alike(script, script))
            for place in bodies(script):
                other = with_body(script, place, (("say", "other"),))
                self.assertIsNone(script_error(other))
                history = alike(script, other)
                if history is not None:
                    worlds = self.done(script, history), self.done(other, history)
                    for world in worlds:
                        world.undo()
                    first, second = [self.do(world, history[-1]) for world in worlds]
                    self.assertNotEqual(first, second)
                    self.assertEqual(play(script, history[:-1]), play(other, history[:-1]))
                    unlike += 1
        self.assertGreater(unlike, 9)


def with_body(script, place, body):
    """The script with another body at this place."""
    k, s, p = place
    stages = [list(stage) for stage in script[2]]
    step = list(stages[k][s])
    if step[0] == "class":
        parts = list(step[3])
        parts[p] = parts[p][:2] + (body,)
        step[3] = tuple(parts)
    else:
        step[2] = step[2][:2] + (body,)
    stages[k][s] = tuple(step)
    return script[:2] + (tuple(tuple(stage) for stage in stages),)


class Long(WholeCase):
    """Long histories: nothing comes up in them that is not told."""

    def deed(self, chance, script, world):
        """Any deed; often it is not let by."""
        words, offers, stages = script
        c, n, way = chance.choice(offers)
        w = chance.choice(words)
        things = range(len(world))
        # Not too many things, so that each of them is asked often.
        if not things or (way == "make" and len(things) < 9):
            return ("make", c, chance.randrange(3), w)
        i, guest = chance.choice(things), chance.choice([None, *things])
        return chance.choice((
            ("call", i, n, w, guest), ("call", i, n, w, None), ("read", i, n), ("hold", i, n),
            ("ring", chance.randrange(9), w, guest),
        ))

    def check_long(self, script, seed):
        self.assertIsNone(script_error(script))
        chance = random.Random(seed)
        known = [set(standings(script, stage)) for stage in range(len(script[2]))]
        told = set(cases(script))
        world, ahead = World(script), Play(script)
        turns = sorted(chance.sample(range(40, MOST_DEEDS), len(script[2]) - 1))
        while len(world.history) < MOST_DEEDS:
            deed = self.deed(chance, script, world)
            if turns and len(world.history) >= turns[0]:
                deed = NEXT
                turns.pop(0)
            try:
                answer = self.do(world, deed)
            except BadDeed:
                continue
            for standing in world:
                self.assertIn(standing, known[world.reached])
            if answer[0] == "fault":
                self.assertIn(case_of(ahead, deed, answer), told)
            ahead.do_deed(deed)
        self.assertEqual(world.reached, len(script[2]) - 1)
        self.assertEqual(len(play(script, world.history)), MOST_DEEDS)

    def test_they_hold_what_is_told(self):
        for script in (S, PUPS, OPEN, GUESTS):
            for seed in range(8):
                self.check_long(script, seed)


class Together(WholeCase):
    def test_texts_of_scripts(self):
        for script in SCRIPTS:
            self.assertEqual(repr(read_script(script_text(script))), repr(script))
        self.assertEqual(cases(read_script(S_TEXT)), cases(S))

    def test_tables_and_standings(self):
        for script in SCRIPTS:
            table = table_of(script)
            self.assertIsNone(shut_error(script, table))
            for stage, rows in enumerate(table):
                self.assertEqual(tuple(sorted({standing for standing, _ in rows})), standings(script, stage))

    def test_safe_scripts(self):
        for script in SCRIPTS:
            self.assertIs(is_safe(script), cases(script) == ())
            self.assertIs(sure(script) == script[1] or not is_safe(script), True)
            self.assertLessEqual(set(elder(script)), set(runs(script)))
        safe = with_steps(S, ((1, ("fill", "man", "title", "sir")),))
        self.assertIs(is_safe(safe), True)
        self.assertEqual(fewest(safe, ((1, ("clear", "man", "name")),)), ())
        # The fill is told by those that were led.
        other = with_steps(S, ((1, ("clear", "man", "title")),))
        history = alike(other, safe)
        self.assertEqual(play(other, history)[-1], ("fault", "lacks", "title"))

    def test_all_that_is_told_is_tuples(self):
        for script in (S, PUPS):
            for told in (
                cases(script), tuple(each_case(script)), sure(script), runs(script), elder(script), table_of(script),
                standings(script, 1), bodies(script), with_steps(script, ()), World(script).history,
                World(script).would(()),
            ):
                self.assertIs(type(told), tuple)
                self.assertNotIn("[", repr(told))


if __name__ == "__main__":
    unittest.main()
