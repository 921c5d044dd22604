"""World: a history that goes on (point 14)."""

import copy
import unittest

from acting import NEXT, S, call, does, fault, klass, looks, make, ring, said, script_of, value
from remadeclasses.bounds import MOST_DEEDS
from remadeclasses.errors import BadDeed, BadScript, NoSuch, NothingToUndo
from remadeclasses.plays import play, standings_after
from remadeclasses.scripts import script_error
from remadeclasses.worlds import World
from samples import NO_TUPLES, NO_WORDS, RICH, put
from wrongdeeds import AHEAD, DEEDS, NO_NUMBERS, PARTS, SCRIPT, is_right

# A man whose act is a fault of each sort, whose born is one for stop.
FAULTY = script_of(
    ("man act call", "man born make", "man see read", "man val call"),
    (klass("man", "", does("act", ("put", "n", "w"), ("tell", "none")), value("val", "v"),
           does("born", ("if", ("told", "stop"), (("drop", "m"),), (("put", "m", "w"),)))),),
    (("clear", "man", "m"), ("cut", "man", "none"), ("lead", "man")),
)


def do(world, deed):
    """Do a deed, told as a tuple, by the method that does it."""
    way, told = deed[0], deed[1:]
    if way == "call":
        return world.call(*told[:3], guest=told[3])
    if way == "ring":
        return world.ring(*told[:2], guest=told[2])
    if way == "next":
        return world.go_on(*told)
    return {"make": world.make, "read": world.read, "hold": world.hold}[way](*told)


def world_of(script, history):
    """The world in which these deeds were done."""
    world = World(script)
    for deed in history:
        do(world, deed)
    return world


class WorldCase(unittest.TestCase):
    def shown(self, world):
        """All that can be seen of a world."""
        standings = list(world)
        self.assertEqual(len(world), len(standings))
        self.assertEqual(repr([world[i] for i in range(len(world))]), repr(standings))
        for standing in standings:
            self.assertIs(standing in world, True)
        return repr((world.script, world.reached, world.history, standings, len(world), str(world)))

    def check(self, script, history):
        """The world shows what plays tell, all the way and back."""
        self.assertIsNone(script_error(script))
        ahead = repr((script, history))
        world = World(script)
        shown = [self.shown(world)]
        for many, deed in enumerate(history):
            answer = do(world, deed)
            done = history[:many + 1]
            self.assertEqual(repr(answer), repr(play(script, done)[-1]))
            self.check_shown(world, script, done)
            shown.append(self.shown(world))
        self.assertEqual(repr(World(script).would(history)), repr(play(script, history)))
        for many in range(len(history) - 1, -1, -1):
            self.assertIsNone(world.undo())
            self.assertEqual(self.shown(world), shown[many])
            self.check_shown(world, script, history[:many])
            self.assertEqual(repr(world.would(history[many:])), repr(play(script, history)[many:]))
            self.assertEqual(self.shown(world), shown[many])
            # The deed that was taken back is done again, and taken back.
            self.assertEqual(repr(do(world, history[many])), repr(play(script, history)[many]))
            world.undo()
        with self.assertRaises(NothingToUndo):
            world.undo()
        self.assertEqual(self.shown(world), shown[0])
        self.assertEqual(repr((script, history)), ahead)

    def check_shown(self, world, script, history):
        """The world stands behind this history."""
        self.assertEqual(repr(world.script), repr(script))
        self.assertIs(type(world.history), tuple)
        self.assertEqual(repr(world.history), repr(history))
        self.assertEqual(repr(tuple(world)), repr(standings_after(script, history)))
        reached = len([deed for deed in history if deed == NEXT])
        self.assertEqual(repr(world.reached), repr(reached))
        self.assertEqual(str(world), "stage {}, {} things, {} deeds".format(reached, len(world), len(history)))

    def check_bad(self, world, asked, index):
        """This is refused, and nothing is changed."""
        ahead = self.shown(world)
        with self.assertRaises(BadDeed) as caught:
            asked()
        self.assertEqual(repr(caught.exception.index), repr(index))
        self.assertEqual(self.shown(world), ahead)


class Scripts(WorldCase):
    def test_any_value(self):
        for item in NO_TUPLES + NO_WORDS + (
            (("go",), ()), (("go",), (), [()]), (("go",), (), ((("cut",),),)), (("go",), (), ()), [("go",), (), ((),)],
            ((), (), ((),)), (("go",), (("man", "born", "made"),), ((),)), put(S, 2, S[2] * 2),
            put(RICH, 0, RICH[0][::-1]),
        ):
            with self.subTest(item=item):
                ahead = repr(item)
                with self.assertRaises(BadScript) as caught:
                    World(item)
                self.assertEqual(repr((caught.exception.place, caught.exception.why)), repr(script_error(item)))
                self.assertEqual(repr(item), ahead)

    def test_the_errors_place(self):
        for item, place, why in (
            (None, (), "script"), ((("go",), (), [()]), (2,), "stages"),
            ((("go",), (), ((("cut",),),)), (2, 0, 0), "step"),
        ):
            with self.assertRaises(BadScript) as caught:
                World(item)
            self.assertEqual((caught.exception.place, caught.exception.why), (place, why))


class Deeds(WorldCase):
    def test_the_document(self):
        history = (make(), ("hold", 0, "greet"), NEXT, call("greet"), ring())
        self.check(S, history)
        world = World(S)
        self.assertEqual(world.make("man", 0, "go"), ("thing", 0))
        self.assertEqual(world.hold(0, "greet"), ("held", 0))
        self.assertEqual(world.go_on(), ("ran", 2))
        self.assertEqual(world.call(0, "greet", "go"), fault("lacks", "title"))
        self.assertEqual(world.ring(0, "go"), said("adam"))
        self.assertEqual(world.history, history)
        self.assertEqual(str(world), "stage 1, 1 things, 5 deeds")

    def test_every_deed(self):
        self.check(SCRIPT, AHEAD + tuple(deed for deed, _ in DEEDS))
        for deed, _ in DEEDS:
            self.check(SCRIPT, AHEAD + (deed,))

    def test_faults_are_done(self):
        self.check(FAULTY, (
            make(), make(w="stop"), call("act"), ("read", 0, "see"), ("hold", 0, "val"), make(), ("hold", 1, "act"),
            ring(), call("val", 1), NEXT, make(w="stop"), ("hold", 0, "act"), ring(1), call("act", 1),
        ))
        world = world_of(FAULTY, (make(),))
        self.assertEqual(world.make("man", 0, "stop"), fault("lacks", "m"))
        self.assertEqual((len(world), len(world.history)), (1, 2))
        # What was done ahead of a fault stays, and goes by undo.
        ahead = world[0]
        self.assertEqual(world.call(0, "act", "go"), fault("lacks", "none"))
        self.assertEqual(world[0], ("man", 0, (("m", "w"), ("n", "w"))))
        world.undo()
        self.assertEqual(world[0], ahead)

    def test_guests(self):
        script = script_of(
            ("dog born make", "man act call", "man born make"),
            (klass("dog", ""), klass("man", "", does("act", ("if", ("guest", "dog"), (("keep", "n"),), ()))),),
        )
        self.check(script, (
            make(), make("dog"), call("act"), call("act", guest=0), call("act", w="stop", guest=1), ("hold", 0, "act"),
            ring(), ring(guest=0), ring(guest=1),
        ))
        world = world_of(script, (make(), make("dog")))
        world.call(0, "act", "go")
        self.assertEqual(world[0], ("man", 0, ()))
        world.call(0, "act", "go", guest=None)
        self.assertEqual(world[0], ("man", 0, ()))
        world.call(0, "act", "go", guest=1)
        self.assertEqual(world[0], ("man", 0, (("n", "go"),)))
        self.assertEqual(world.history[2:], (call("act"), call("act"), call("act", guest=1)))
        world.hold(0, "act")
        world.ring(0, "stop", guest=1)
        self.assertEqual(world[0], ("man", 0, (("n", "stop"),)))
        world.ring(0, "go")
        self.assertEqual(world[0], ("man", 0, (("n", "stop"),)))
        self.assertEqual(world.history[-2:], (ring(0, "stop", 1), ring()))

    def test_guests_are_passed_by_name_alone(self):
        world = world_of(SCRIPT, AHEAD)
        with self.assertRaises(TypeError):
            world.call(0, "act", "go", 1)
        with self.assertRaises(TypeError):
            world.ring(0, "go", 1)
        self.check_shown(world, SCRIPT, AHEAD)

    def test_what_is_not_let_by(self):
        world = world_of(SCRIPT, AHEAD)
        for deed, mays in DEEDS:
            for at in range(1, len(deed)):
                for item in PARTS:
                    changed = put(deed, at, copy.deepcopy(item))
                    if not is_right(item, mays[at]):
                        ahead = repr(changed)
                        self.check_bad(world, lambda: do(world, changed), 4)
                        self.assertEqual(repr(changed), ahead)
        world.go_on()
        self.check_bad(world, world.go_on, 5)
        self.check_shown(world, SCRIPT, AHEAD + (NEXT,))

    def test_nothing_is_there_yet(self):
        world = World(SCRIPT)
        for deed, _ in DEEDS[2:8]:
            self.check_bad(world, lambda: do(world, deed), 0)
        world = World(script_of((), ()))
        self.check_bad(world, world.go_on, 0)

    def test_what_was_taken_back_is_not_there(self):
        world = world_of(SCRIPT, AHEAD)
        world.undo()
        self.check_bad(world, lambda: world.ring(1, "go"), 3)
        world.undo()
        self.check_bad(world, lambda: world.ring(0, "go"), 2)
        world.undo()
        self.check_bad(world, lambda: world.hold(1, "act"), 1)
        world.go_on()
        self.assertEqual(world.reached, 1)
        world.undo()
        self.assertEqual(world.reached, 0)
        self.assertEqual(world.go_on(), ("ran", 1))
        self.check_shown(world, SCRIPT, AHEAD[:1] + (NEXT,))

    def test_worlds_do_not_meet(self):
        one, other = World(SCRIPT), World(SCRIPT)
        one.make("man", 1, "go")
        self.assertEqual((len(one), len(other)), (1, 0))
        other.make("dog", 0, "go")
        one.undo()
        self.assertEqual(list(other), [("dog", 0, ())])


class Most(WorldCase):
    def full(self, less=0):
        world = World(FAULTY)
        for at in range(MOST_DEEDS - less):
            # Those that are faults count, too.
            world.make("man", 0, "go" if at % 2 else "stop")
        return world

    def test_as_many_deeds(self):
        self.assertEqual(MOST_DEEDS, 400)
        world = self.full()
        self.assertEqual(str(world), "stage 0, 200 things, 400 deeds")
        for asked in (
            lambda: world.make("man", 0, "go"), lambda: world.call(0, "act", "go"), lambda: world.read(0, "see"),
            lambda: world.hold(0, "act"), world.go_on, lambda: world.make(None, 0, "go"), lambda: world.ring(0, "go"),
        ):
            self.check_bad(world, asked, 400)
        world.undo()
        self.assertEqual(world.go_on(), ("ran", 1))
        self.check_bad(world, lambda: world.read(0, "see"), 400)
        self.assertEqual(world.reached, 1)

    def test_in_would(self):
        world = self.full()
        self.assertEqual(world.would(()), ())
        self.check_bad(world, lambda: world.would((make(),)), 0)
        self.check_bad(world, lambda: world.would((None,)), 0)
        world.undo()
        self.assertEqual(world.would((NEXT,)), (("ran", 1),))
        self.check_bad(world, lambda: world.would((NEXT, make())), 1)
        self.check_bad(world, lambda: world.would((NEXT, make(), make())), 1)
        world = self.full(3)
        self.assertEqual(len(world.would((make(w="stop"), NEXT, make()))), 3)
        self.check_bad(world, lambda: world.would((make(w="stop"), NEXT, make(), make())), 3)
        self.check_bad(world, lambda: world.would((make(w="stop"), ("next", 1), make(), make())), 1)
        fresh = World(FAULTY)
        self.assertEqual(len(fresh.would((make(),) * 400)), 400)
        self.check_bad(fresh, lambda: fresh.would((make(),) * 401), 400)
        self.assertEqual(len(fresh), 0)

    def test_to_the_end_and_back(self):
        world = self.full()
        for many in range(MOST_DEEDS, 0, -1):
            self.assertEqual(len(world.history), many)
            world.undo()
        self.assertEqual(world, World(FAULTY))
        with self.assertRaises(NothingToUndo):
            world.undo()


class Would(WorldCase):
    def test_answers(self):
        world = world_of(SCRIPT, AHEAD)
        for many in range(len(DEEDS) + 1):
            deeds = tuple(deed for deed, _ in DEEDS[:many])
            ahead = self.shown(world)
            answers = world.would(deeds)
            self.assertIs(type(answers), tuple)
            self.assertEqual(repr(answers), repr(play(SCRIPT, AHEAD + deeds)[4:]))
            self.assertEqual(repr(world.would(deeds)), repr(answers))
            self.assertEqual(self.shown(world), ahead)

    def test_no_tuple(self):
        world = world_of(SCRIPT, AHEAD)
        for deeds in NO_TUPLES + NO_WORDS:
            if not isinstance(deeds, tuple):
                self.check_bad(world, lambda: world.would(deeds), -1)
        self.check_bad(world, lambda: world.would([NEXT]), -1)

    def test_no_deeds(self):
        world = world_of(SCRIPT, AHEAD)
        wrong = ((), (NEXT,), ["next"], ("next", None), call("none"), make("cat"))
        for deed in NO_TUPLES + NO_WORDS + NO_NUMBERS + wrong:
            self.check_bad(world, lambda: world.would((deed,)), 0)
            self.check_bad(world, lambda: world.would((call("act"), make("man", 1), deed, NEXT)), 2)
            self.check_bad(world, lambda: world.would((NEXT, deed)), 1)
        self.check_bad(world, lambda: world.would(NEXT), 0)

    def test_what_comes_within(self):
        world = world_of(SCRIPT, AHEAD)
        self.assertEqual(world.would((make("man", 1), call("act", 2), ("hold", 2, "act"), ring(2))), (
            ("thing", 2), said("w"), ("held", 2), said("w"),
        ))
        # They are not there behind it.
        self.check_bad(world, lambda: world.would((call("act", 2),)), 0)
        self.check_bad(world, lambda: world.would((ring(2),)), 0)
        self.check_bad(world, lambda: world.would((NEXT, NEXT)), 1)
        self.assertEqual(world.would((NEXT,)), world.would((NEXT,)))

    def test_the_world_goes_on_as_it_was(self):
        world = world_of(FAULTY, (make(), call("act"), ("hold", 0, "act")))
        history = (NEXT, make(), call("act", 1), ring(), ("read", 0, "see"))
        for many in range(len(history)):
            world.would(history[many:])
            world.would(history[many:many + 1])
            with self.assertRaises(BadDeed):
                world.would(history[many:] + (None,))
            do(world, history[many])
            self.check_shown(world, FAULTY, (make(), call("act"), ("hold", 0, "act")) + history[:many + 1])
        for _ in history:
            world.would(())
            world.undo()
        self.check_shown(world, FAULTY, (make(), call("act"), ("hold", 0, "act")))


class Undo(WorldCase):
    def test_each_deed(self):
        # A call that changes an own field, a ring that drops it, a next that fills it.
        script = script_of(
            ("man act call", "man born make", "man off call", "man see read"),
            (klass(
                "man", "", does("act", ("keep", "n")), does("off", ("drop", "n")), looks("see", ("put", "m", "w")),
            ),),
            (klass("man", "", does("act")), ("lead", "man"), ("fill", "man", "o", "w")),
        )
        self.check(script, (
            make(), make(), ("hold", 0, "act"), call("act", 1), ("hold", 1, "off"), ring(0, "stop"), ring(1), ring(1),
            ("read", 0, "see"), NEXT, call("act", 1), ("hold", 0, "act"), ring(0), ring(2), make("man", 1),
        ))

    def test_nothing(self):
        world = World(S)
        for _ in range(2):
            with self.assertRaises(NothingToUndo):
                world.undo()
            self.assertEqual(str(world), "stage 0, 0 things, 0 deeds")

    def test_what_was_refused_is_not_taken_back(self):
        world = world_of(S, (make(),))
        with self.assertRaises(BadDeed):
            world.read(0, "greet")
        world.undo()
        self.assertEqual(world.history, ())
        with self.assertRaises(NothingToUndo):
            world.undo()


class Looking(WorldCase):
    def test_items(self):
        world = world_of(FAULTY, (make(), call("act"), make()))
        self.assertEqual(world[0], ("man", 0, (("m", "w"), ("n", "w"))))
        self.assertEqual(world[1], ("man", 0, (("m", "w"),)))
        for at in NO_NUMBERS + NO_WORDS + NO_TUPLES + (-3, 10 ** 29, None, ("man", 0, ())):
            if repr(at) not in ("0", "1"):
                with self.subTest(at=at):
                    with self.assertRaises(NoSuch) as caught:
                        world[at]
                    self.assertIs(caught.exception.value, at)
        with self.assertRaises(NoSuch):
            World(S)[0]

    def test_membership(self):
        script = script_of(
            ("dog born make", "man born make"), (klass("dog", ""), klass("man", "", does("born", ("put", "n", "w")))),
            (klass("man", "", does("born", ("put", "m", "v"), ("put", "n", "w"))),),
        )
        world = world_of(script, (NEXT, make("dog"), make("man", 1)))
        right = ("man", 1, (("m", "v"), ("n", "w")))
        self.assertIs(right in world, True)
        self.assertIs(("dog", 0, ()) in world, True)
        self.assertIs(("man", 0, (("n", "w"),)) in world, False)
        for item in NO_TUPLES + NO_WORDS + (
            (), list(right), right[:2], right + ((),), (right,), ("man", True, right[2]), ("dog", False, ()),
            ("man", 1, list(right[2])), ("man", 1, (["m", "v"], ("n", "w"))), ("man", 1, right[2][::-1]),
            ("man", 1, dict(right[2])), ("man", 1, right[2][:1]), ("man", 1, ()), ("man", 2, right[2]),
            ("men", 1, right[2]), ("man", "1", right[2]), ("man", 1, None), ("man", [], {}), ([], 1, ()),
            ("man", 1, (("m", "v"), ("n", ["w"]))), ("dog", 0, []), ("dog", 0, {}),
        ):
            with self.subTest(item=item):
                ahead = repr(item)
                self.assertIs(item in world, False)
                self.assertEqual(repr(item), ahead)
        world.undo()
        self.assertIs(right in world, False)
        self.assertIs(right in World(script), False)

    def test_walking(self):
        world = world_of(FAULTY, (make(), make()))
        seen = []
        for standing in world:
            seen.append(standing)
            world.call(1, "act", "go")
            world.make("man", 0, "go")
        self.assertEqual(seen, [("man", 0, (("m", "w"),))] * 2)
        self.assertEqual(len(world), 4)
        walk = iter(world)
        world.go_on()
        self.assertEqual(next(walk), ("man", 0, (("m", "w"),)))
        for _ in range(3):
            world.undo()
        self.assertEqual(list(walk), [("man", 0, (("m", "w"), ("n", "w")))] + [("man", 0, (("m", "w"),))] * 2)
        self.assertEqual(len(world), 3)
        self.assertEqual(list(walk), [])
        # What was told does not change either.
        history, standings = world.history, tuple(world)
        told = repr((history, standings))
        world.make("man", 0, "go")
        world.call(0, "act", "go")
        self.assertEqual(repr((history, standings)), told)
        self.assertEqual(list(World(S)), [])

    def test_walks_side_by_side(self):
        world = world_of(FAULTY, (make(), make()))
        self.assertEqual(len([(one, other) for one in world for other in world]), 4)

    def test_equal(self):
        one, other = World(SCRIPT), World(SCRIPT)
        self.assertIs(one == other, True)
        self.assertIs(one != other, False)
        one.make("man", 1, "go")
        self.assertIs(one == other, False)
        self.assertIs(one != other, True)
        other.make("man", 1, "go")
        self.assertIs(one == other, True)
        one.call(0, "act", "go")
        other.call(0, "act", "stop")
        # They show the same, but not the same history.
        self.assertEqual(list(one), list(other))
        self.assertIs(one == other, False)
        one.undo()
        other.undo()
        self.assertIs(one == other, True)
        self.assertIs(one == one, True)
        copied = (SCRIPT[0], SCRIPT[1], tuple(tuple(stage) for stage in SCRIPT[2]))
        self.assertIs(World(copied) == World(SCRIPT), True)
        self.assertIs(World(S) == World(SCRIPT), False)
        self.assertIs(World(script_of((), ())) == World(script_of((), (), ())), False)

    def test_nothing_else_is_equal(self):
        world = world_of(S, (make(),))
        shown = (S, world.history, (S, world.history), list(world), tuple(world), str(world))
        for item in NO_TUPLES + NO_WORDS + shown:
            with self.subTest(item=item):
                self.assertIs(world == item, False)
                self.assertIs(item == world, False)
                self.assertIs(world != item, True)

    def test_text(self):
        world = World(script_of(("man born make",), (klass("man", ""),), (), ()))
        self.assertEqual(str(world), "stage 0, 0 things, 0 deeds")
        world.make("man", 0, "go")
        self.assertEqual(str(world), "stage 0, 1 things, 1 deeds")
        world.go_on()
        self.assertEqual(str(world), "stage 1, 1 things, 2 deeds")
        world.go_on()
        world.make("man", 0, "go")
        self.assertEqual(str(world), "stage 2, 2 things, 4 deeds")

    def test_properties_cannot_be_set(self):
        world = World(S)
        for name in ("script", "reached", "history"):
            with self.assertRaises(AttributeError):
                setattr(world, name, ())
            self.assertIsInstance(World.__dict__[name], property)

    def test_all_is_defined_in_the_class_itself(self):
        for name in (
            "make", "call", "read", "hold", "ring", "go_on", "undo", "would", "script", "reached", "history",
            "__getitem__", "__len__", "__contains__", "__iter__", "__eq__", "__str__",
        ):
            self.assertIn(name, World.__dict__)


if __name__ == "__main__":
    unittest.main()
