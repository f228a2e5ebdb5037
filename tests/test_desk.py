"""Stage 20: a desk of words, [20.1] to [20.3]."""

import unittest

from treerooms.desk.desk import Desk
from treerooms.errors import InvalidNumber, InvalidOperation, InvalidWeb, NothingToUndo, Refused, TooMany, UnknownName
from treerooms.trees.alike import are_alike
from treerooms.trees.tree import is_still
from treerooms.webs.plain import plain_words
from treerooms.webs.webs import Web
from treerooms.worlds.cores import stock_has
from treerooms.worlds.own import own_web

from tests.makers import words_of
from tests.second import any_plain, back, joined, turned
from tests.support import (
    DOWN, FLAT, FREE23, IDLE, JUNK, LINE, LOOP, NO_WEBS, SIX, STAR, THREE, TURNS, TWO, WHOLE, chances, check_error, line_road, nested,
)

THIRD, WALK = (0, 1, 1, -1, 0), (1, 1, 1, -1, 0)
FAR = (10 ** 59, 10 ** 60 - 1)
NO_NAMES = (
    "", "ninechars", "A", "aB", "a1", "a b", "a-", " ", "a\n", "\u00e4", None, 1, True, ("s",), ["s"], {}, (), "s" * 4000, nested(8),
    TWO, FREE23, "{", "`",
)


def desk_of(web=FREE23, *deeds):
    """A desk with some words."""
    desk = Desk(web)
    desk.do(("put", "s", (1,)), ("put", "t", THIRD), ("times", "st", "s", "t"), *deeds)
    return desk


def state(desk):
    return desk.kept, desk.sayings, desk.past, list(desk), len(desk), str(desk)


class Model:
    """A desk as the document tells it, by second ways."""

    def __init__(self, web):
        self.web, self.words, self.said, self.moves = web, {}, [], []

    def order(self, word):
        for many in range(1, 25):
            if any_plain(self.web, joined(self.web, *[word] * many)) == (0,):
                return many
        return None

    def length(self, word):
        rows = [any_plain(self.web, joined(self.web, *[word] * many)) for many in (30, 31)]
        return (len(rows[1]) - len(rows[0])) // 2 if self.order(word) is None else 0

    def holds(self, words, saying):
        head, word, last = saying[0], words[saying[1]], saying[-1]
        if head == "nothing":
            return any_plain(self.web, word) == (0,)
        if head == "equal":
            return any_plain(self.web, joined(self.web, word, back(self.web, words[last]))) == (0,)
        if head == "alike":
            return are_alike(self.web, word, words[last])
        if head == "order":
            return self.order(word) == last
        if head == "length":
            return self.length(word) == last
        if head == "still":
            return is_still(self.web, word)
        return stock_has(self.web, tuple(words[name] for name in last), word)

    def names(self, saying):
        names = [saying[1]]
        if saying[0] in ("equal", "alike"):
            names.append(saying[2])
        return names + list(saying[2]) if saying[0] == "within" else names

    def made(self, words, deed):
        head = deed[0]
        if head == "put":
            word = deed[2]
        elif head == "same":
            word = words[deed[2]]
        elif head == "times":
            word = joined(self.web, words[deed[2]], words[deed[3]])
        elif head == "back":
            word = back(self.web, words[deed[1]])
        elif head == "turned":
            word = turned(self.web, words[deed[1]], words[deed[2]])
        else:
            word = words[deed[1]] if deed[2] >= 0 else back(self.web, words[deed[1]])
            word = joined(self.web, *[word] * abs(deed[2])) if deed[2] else (0,)
        return any_plain(self.web, word)

    def do(self, *deeds):
        words = dict(self.words)
        for index, deed in enumerate(deeds):
            for name in deed[2 if deed[0] in ("put", "same", "times") else 1:]:
                if isinstance(name, str) and name not in words:
                    return UnknownName(name)
            if deed[0] == "take":
                del words[deed[1]]
                continue
            words[deed[1]] = self.made(words, deed)
            if len(words[deed[1]]) > 49:
                return Refused(("long", index))
        for saying in self.said:
            if any(name not in words for name in self.names(saying)):
                return Refused(("taken", saying))
        for saying in self.said:
            if not self.holds(words, saying):
                return Refused(("broken", saying))
        return self.move(words, self.said)

    def move(self, words, said):
        if (words, said) != (self.words, self.said):
            self.moves.append((self.words, self.said))
            self.words, self.said = words, said

    def say(self, saying):
        for name in self.names(saying):
            if name not in self.words:
                return UnknownName(name)
        if saying in self.said:
            return None
        if len(self.said) == 20:
            return TooMany(20)
        if not self.holds(self.words, saying):
            return Refused(("false",))
        return self.move(self.words, self.said + [saying])

    def unsay(self, saying):
        if saying not in self.said:
            return UnknownName(saying)
        return self.move(self.words, [one for one in self.said if one != saying])

    def undo(self, steps):
        if steps > len(self.moves):
            return NothingToUndo(steps)
        self.words, self.said = self.moves[-steps]
        del self.moves[-steps:]
        return None


NAMES = ("a", "b", "cc", "longname", "z")


def some_deed(chance, web):
    head = chance.choice(("put", "put", "take", "same", "times", "times", "back", "raised", "turned", "turned"))
    name = lambda: chance.choice(NAMES)
    rest = {
        "put": lambda: (name(), words_of(chance, web, 1, chance.choice((2, 2, 6, 30)))[0]), "take": lambda: (name(),), "same": lambda: (name(), name()),
        "times": lambda: (name(), name(), name()), "back": lambda: (name(),), "raised": lambda: (name(), chance.randrange(-6, 7)),
        "turned": lambda: (name(), name()),
    }
    return (head,) + rest[head]()


def some_saying(chance, model):
    head = chance.choice(("nothing", "equal", "alike", "order", "length", "still", "within"))
    name = chance.choice(NAMES)
    if head in ("nothing", "still"):
        return (head, name)
    if head in ("equal", "alike"):
        return (head, name, chance.choice(NAMES))
    if head == "within":
        return (head, name, tuple(chance.choice(NAMES) for _ in range(chance.randrange(1, 4))))
    number = chance.randrange(-1, 7)
    if name in model.words and chance.random() < 0.7:
        number = model.order(model.words[name]) if head == "order" else model.length(model.words[name])
    return (head, name, 0 if number is None else number)


class Calls(unittest.TestCase):
    def check_same(self, desk, model):
        self.assertEqual((desk.kept, desk.sayings, desk.past), (model.words, tuple(model.said), len(model.moves)))
        self.assertEqual((list(desk), len(desk)), (sorted(model.words), len(model.words)))
        self.assertTrue(all(desk.is_true(saying) for saying in desk.sayings))

    def check_call(self, desk, model, name, arguments):
        wanted = getattr(model, name)(*arguments)
        ahead = desk.twin()
        if wanted is None:
            self.assertIsNone(getattr(desk, name)(*arguments))
        else:
            with self.assertRaises(type(wanted)) as caught:
                getattr(desk, name)(*arguments)
            self.assertEqual(vars(caught.exception), vars(wanted))
            self.assertEqual(state(desk), state(ahead))
            self.assertEqual(desk, ahead)
        self.check_same(desk, model)
        if name != "undo" and desk.past > ahead.past:
            twin = desk.twin()
            twin.undo()
            self.assertEqual((twin, state(twin)), (ahead, state(ahead)))
        return type(wanted).__name__ if wanted is not None else None

    def test_many_calls(self):
        answers = []
        for seed, web in enumerate((FREE23, FLAT, LOOP, STAR, TURNS, DOWN, LINE, Web((SIX,), ((0, 0, IDLE + ((1, 2),)),)))):
            chance, desk, model = chances(seed), Desk(web), Model(web)
            for _ in range(150):
                kind = chance.random()
                if kind < 0.5:
                    deeds = tuple(some_deed(chance, web) for _ in range(chance.choice((0, 1, 1, 1, 2, 3))))
                    answers.append(self.check_call(desk, model, "do", deeds))
                elif kind < 0.85:
                    answers.append(self.check_call(desk, model, "say", (some_saying(chance, model),)))
                elif kind < 0.93:
                    saying = chance.choice(model.said) if model.said and chance.random() < 0.8 else some_saying(chance, model)
                    answers.append(self.check_call(desk, model, "unsay", (saying,)))
                else:
                    answers.append(self.check_call(desk, model, "undo", (chance.choice((1, 1, 2, 3, 50)),)))
                saying = some_saying(chance, model)
                known = all(name in model.words for name in model.names(saying))
                self.assertIs(desk.is_true(saying), known and model.holds(model.words, saying))
        for name in (None, "UnknownName", "Refused", "NothingToUndo"):
            self.assertGreater(answers.count(name), 8, name)

    def test_deeds_that_break_nothing(self):
        # [20.3]
        for seed, web in enumerate((FREE23, LOOP, STAR, TURNS, FLAT)):
            chance = chances(seed)
            desk = Desk(web)
            for name in NAMES:
                desk.do(("put", name, words_of(chance, web, 1, 3)[0]))
            desk.do(("put", "a", (0,)), ("put", "b", (web.rooms[0].size - 1,)))
            model = Model(web)
            model.words = desk.kept
            for _ in range(12):
                twin = desk.twin()
                saying = some_saying(chance, model)
                if not twin.is_true(saying):
                    continue
                twin.say(saying)
                for deed, kept in (
                    (("turned", saying[1], chance.choice(NAMES)), ("nothing", "alike", "order", "length", "still")),
                    (("back", saying[1]), ("nothing", "order", "length", "still", "within")),
                    (("raised", saying[1], chance.randrange(-6, 7)), ("nothing", "still")),
                ):
                    if saying[0] in kept and (saying[0] != "alike" or deed[2] != saying[1]):
                        one = twin.twin()
                        try:
                            one.do(deed)
                        except Refused as refused:
                            self.assertEqual(refused.reason[0], "long")

    def test_deeds_one_by_one(self):
        desk = desk_of()
        desk.do(("put", "s", (1, 1, 0, -1, 1)))
        self.assertEqual(desk["s"], (0,))
        desk.do(("same", "u", "st"), ("back", "u"), ("take", "s"))
        self.assertEqual(desk.kept, {"st": WALK, "t": THIRD, "u": (0, 1, 2, -1, 1)})
        desk.do(("raised", "t", -1), ("raised", "st", 0), ("turned", "u", "u"))
        self.assertEqual(desk.kept, {"st": (0,), "t": (0, 1, 2, -1, 0), "u": (0, 1, 2, -1, 1)})
        desk.do(("put", "u", (1,)), ("turned", "u", "t"))
        self.assertEqual(desk["u"], (0, 1, 2, -1, 1, 1, 1, -1, 0))
        # A name that is put can be used in the same call, and taken and put again.
        desk.do(("take", "t"), ("put", "t", (1,)), ("times", "x", "t", "t"), ("same", "y", "x"))
        self.assertEqual((desk["x"], desk["y"], desk["t"]), ((0,), (0,), (1,)))

    def test_sayings_are_asked_behind_the_last_deed(self):
        desk = desk_of()
        for saying in (("order", "s", 2), ("length", "st", 2), ("within", "t", ("t", "st"))):
            desk.say(saying)
        past = desk.past
        desk.do(("raised", "st", 2), ("put", "st", WALK))
        self.assertEqual(desk.past, past)
        desk.do(("take", "s"), ("put", "s", (1,)))
        self.assertEqual(desk.past, past)
        desk.do(("take", "s"), ("same", "s", "t"), ("put", "s", (0, 1, 1, -1, 1, 1, 2, -1, 0)))
        self.assertEqual((desk.past, desk["s"]), (past + 1, (0, 1, 1, -1, 1, 1, 2, -1, 0)))
        # What is taken is told ahead of what is broken, each time the first saying.
        for deeds, reason in (
            ((("raised", "st", 2),), ("broken", ("length", "st", 2))),
            ((("put", "s", (0,)), ("take", "t")), ("taken", ("within", "t", ("t", "st")))),
            ((("take", "st"), ("put", "s", (0,))), ("taken", ("length", "st", 2))),
            ((("take", "t"), ("take", "st")), ("taken", ("length", "st", 2))),
            ((("put", "s", (0,)), ("put", "st", (0,))), ("broken", ("order", "s", 2))),
        ):
            check_error(self, Refused(reason), desk.do, deeds)
            self.assertEqual(desk.past, past + 1)

    def test_first_errors(self):
        desk = desk_of()
        desk.say(("order", "s", 2))
        long = ("put", "w", (0,) + (1, 1, -1, 1) * 12 + (1, 1, -1, 0))
        for deeds, wanted in (
            ((("take", "x"), ("take", "y")), UnknownName("x")), ((("times", "n", "x", "y"),), UnknownName("x")),
            ((("times", "n", "s", "y"),), UnknownName("y")), ((("turned", "x", "y"),), UnknownName("x")), ((("turned", "s", "y"),), UnknownName("y")),
            ((("same", "s", "n"),), UnknownName("n")), ((("raised", "n", 0),), UnknownName("n")), ((("back", "n"),), UnknownName("n")),
            ((("take", "t"), ("back", "t")), UnknownName("t")), ((("put", "s", (0,)), ("take", "x")), UnknownName("x")),
            ((long, ("take", "x")), Refused(("long", 0))), ((("take", "x"), long), UnknownName("x")), ((("back", "s"), long), Refused(("long", 1))),
            ((("put", "s", (0,)), long), Refused(("long", 1))), ((("take", "s"), long), Refused(("long", 1))),
            ((("take", "s"),), Refused(("taken", ("order", "s", 2)))), ((long, ("bad",)), InvalidOperation("")), ((("take", "x"), None), InvalidOperation("")),
        ):
            ahead = state(desk)
            check_error(self, wanted, desk.do, deeds)
            self.assertEqual(state(desk), ahead)
        # A word of more than 24 ties on the way is refused, even if it is short again then.
        check_error(self, Refused(("long", 1)), desk.do, (("same", "u", "st"), ("put", "u", (0,) + (1, 1, -1, 1) * 13), ("take", "u")))

    def test_bounds_of_ties(self):
        desk = Desk(FREE23)
        word = (0,) + (1, 1, -1, 1) * 12
        self.assertEqual(len(word) // 2, 24)
        desk.do(("put", "w", word))
        self.assertEqual(desk["w"], word)
        check_error(self, Refused(("long", 0)), desk.do, (("put", "w", word[:-1] + (1, 1, 1, -1, 0)),))
        # Long words whose plain form is short can be put; words with more than 60 ties are none.
        desk.do(("put", "v", line_road(FREE23, 60)))
        self.assertEqual(desk["v"], (0,))
        check_error(self, InvalidOperation(""), desk.do, (("put", "v", line_road(FREE23, 62)),))
        check_error(self, Refused(("long", 0)), desk.do, (("times", "x", "w", "w"),))
        self.assertEqual(desk.past, 2)
        desk.do(("put", "q", WALK), ("raised", "q", 6), ("times", "q", "q", "q"))
        self.assertEqual(len(desk["q"]) // 2, 24)
        check_error(self, Refused(("long", 0)), desk.do, (("raised", "q", 2),))
        desk.do(("raised", "q", -1), ("raised", "q", 1), ("turned", "q", "q"))
        for many in range(-6, 7):
            desk.do(("put", "r", WALK), ("raised", "r", many))
            self.assertEqual(desk["r"], any_plain(FREE23, joined(FREE23, (0,), *[WALK if many > 0 else back(FREE23, WALK)] * abs(many))))

    def test_many_words(self):
        # Names are bounded, not their number.
        desk = Desk(FREE23)
        names = [chr(97 + at // 26) * 7 + chr(97 + at % 26) for at in range(60)]
        for at, name in enumerate(names):
            desk.do(("put", name, (at % 2,)))
        self.assertEqual((len(desk), list(desk), desk.past), (60, sorted(names), 60))
        self.assertEqual(str(desk), "desk of 60 words, 0 sayings")
        desk.undo(36)
        self.assertEqual(list(desk), sorted(names[:24]))
        desk.do(("put", names[30], (0,)))
        self.assertEqual(len(desk), 25)

    def test_twenty_sayings(self):
        desk = desk_of()
        sayings = [("length", "st", 2), ("order", "s", 2), ("order", "t", 3), ("alike", "s", "s"), ("alike", "t", "t"), ("equal", "s", "s"), ("equal", "t", "t")]
        sayings += [("within", "st", row) for row in (("s", "t"), ("t", "s"), ("st",), ("st", "s"), ("st", "t"), ("s", "st"), ("t", "st"), ("s", "t", "st"))]
        sayings += [("within", "s", row) for row in (("s",), ("s", "s"), ("s", "t"), ("t", "s"), ("s", "st"), ("st", "s"))]
        self.assertEqual(len(set(sayings)), 21)
        for saying in sayings[:20]:
            desk.say(saying)
        self.assertEqual(str(desk), "desk of 3 words, 20 sayings")
        past = desk.past
        check_error(self, TooMany(20), desk.say, (sayings[20],))
        check_error(self, TooMany(20), desk.say, (("order", "s", 3),))
        check_error(self, UnknownName("x"), desk.say, (("order", "x", 3),))
        check_error(self, InvalidOperation(""), desk.say, (("order", "x", True),))
        # One that is kept already is not another one.
        self.assertEqual([desk.say(saying) for saying in sayings[:20:7]], [None] * 3)
        self.assertEqual((desk.past, desk.sayings), (past, tuple(sayings[:20])))
        desk.unsay(sayings[3])
        desk.say(sayings[20])
        self.assertEqual((desk.past, desk.sayings), (past + 2, tuple(sayings[:3] + sayings[4:])))
        check_error(self, TooMany(20), desk.say, (sayings[3],))
        # All of them are true behind each deed that is let.
        desk.do(("turned", "s", "s"), ("raised", "t", 4))
        self.assertTrue(all(desk.is_true(saying) for saying in desk.sayings))

    def test_sayings(self):
        desk = desk_of(FREE23, ("put", "n", (1, 1, 0, -1, 1)), ("put", "u", (0, 1, 2, -1, 0)))
        true = [
            ("nothing", "n"), ("equal", "n", "n"), ("alike", "st", "st"), ("order", "s", 2), ("order", "n", 1), ("length", "st", 2), ("length", "n", 0),
            ("still", "n"), ("within", "u", ("t",)), ("within", "n", ("st",)), ("within", "st", ("s", "t", "n")), ("length", "s", 0),
        ]
        false = [
            ("nothing", "s"), ("equal", "s", "n"), ("alike", "t", "u"), ("order", "s", 4), ("order", "st", 2), ("length", "st", 4), ("still", "s"),
            ("within", "s", ("t",)), ("within", "st", ("n", "t")), ("order", "s", -2), ("order", "st", 0), ("length", "s", -1), ("order", "s", 10 ** 60 - 1),
            ("length", "st", -10 ** 59),
        ]
        for saying in true:
            self.assertIs(desk.is_true(saying), True, saying)
            self.assertIsNone(desk.twin().say(saying))
        for saying in false:
            self.assertIs(desk.is_true(saying), False, saying)
            check_error(self, Refused(("false",)), desk.say, (saying,))
        self.assertEqual(desk.sayings, ())
        still = Desk(LOOP)
        still.do(("put", "a", (1,)), ("put", "b", (0, 1, 0)))
        self.assertEqual((still.is_true(("still", "a")), still.is_true(("still", "b")), still.is_true(("nothing", "a"))), (True, False, False))

    def test_wrong_sayings(self):
        desk = desk_of()
        bad = [
            ("nothing",), ("nothing", "s", "t"), ("nothing", 1), ("equal", "s"), ("equal", "s", "t", "st"), ("equal", "s", ("t",)), ("order", "s"),
            ("order", "s", True), ("order", "s", "2"), ("order", "s", None), ("order", 2, "s"), ("order", "s", 2, 2), ("length", "s", (0,)), ("still", ("s",)),
            ("within", "s", "s"), ("within", "s", ()), ("within", "s", ("s",) * 4), ("within", "s", ["s"]), ("within", "s", ("s", 1)), ("within", ("s",), "s"),
            ("within", "s", ("S",)), ("so", "s"), ("put", "s", (1,)), ("order", "s", False), (), ("",), [("nothing", "s")], ["nothing", "s"], ("order", "s", (2,)),
            (None, "s"), (1, "s"), (["nothing"], "s"), ({}, "s"), "nothing", ("Nothing", "s"), ("nothing ", "s"), nested(8),
        ]
        for name in NO_NAMES:
            bad += [("nothing", name), ("equal", "s", name), ("equal", name, "s"), ("order", name, 1), ("within", "s", ("s", name)), ("within", name, ("s",))]
        for value in list(JUNK) + bad:
            check_error(self, InvalidOperation(""), desk.say, (value,))
            check_error(self, UnknownName(None), self.without_wanted, (desk, value))
            self.assertIs(desk.is_true(value), False, value)
        for number in (10 ** 60, -10 ** 60, 10 ** 99):
            for head in ("order", "length"):
                check_error(self, InvalidOperation(""), desk.say, ((head, "x", number),))
                self.assertIs(desk.is_true((head, "s", number)), False)
        self.assertIs(desk.is_true(("order", "s", 10 ** 4000)), False)
        self.assertEqual(desk.past, 1)
        for saying, name in (
            (("nothing", "x"), "x"), (("equal", "s", "x"), "x"), (("equal", "y", "x"), "y"), (("within", "x", ("y",)), "x"), (("within", "s", ("t", "y", "x")), "y"),
            (("order", "ninechar", 2), "ninechar"), (("order", "x", 10 ** 60 - 1), "x"),
        ):
            check_error(self, UnknownName(name), desk.say, (saying,))
            self.assertIs(desk.is_true(saying), False)

    def without_wanted(self, desk, value):
        """Refuse to unsay a value, and tell whether the error keeps it."""
        try:
            desk.unsay(value)
        except UnknownName as error:
            self.assertIs(error.wanted, value)
            raise UnknownName(None)

    def test_unsaying(self):
        desk = desk_of()
        desk.say(("order", "s", 2))
        desk.do(("put", "n", (0,)))
        desk.say(("order", "n", 1))
        # True is not 1.
        check_error(self, UnknownName(("order", "n", True)), desk.unsay, (("order", "n", True),))
        check_error(self, UnknownName(("order", "x", 1)), desk.unsay, (("order", "x", 1),))
        check_error(self, UnknownName(["order", "n", 1]), desk.unsay, (["order", "n", 1],))
        self.assertIsNone(desk.unsay(("order", "s", 2)))
        self.assertEqual(desk.sayings, (("order", "n", 1),))
        check_error(self, UnknownName(("order", "s", 2)), desk.unsay, (("order", "s", 2),))
        desk.do(("put", "s", (0,)))
        desk.undo(2)
        self.assertEqual((desk["s"], desk.sayings), ((1,), (("order", "s", 2), ("order", "n", 1))))

    def test_wrong_deeds(self):
        desk = desk_of()
        bad = [
            ("put", "s"), ("put", "s", (2,)), ("put", "s", (0, 1, 0)), ("put", "s", [0]), ("put", "s", (True,)), ("put", (1,), "s"), ("put", "s", (0,), 1), ("take",),
            ("take", "s", "t"), ("same", "s"), ("same", "s", (0,)), ("times", "s", "t"), ("times", "s", "t", "t", "t"), ("times", "s", "t", 1), ("back",),
            ("back", "s", 1), ("raised", "s"), ("raised", "s", 7), ("raised", "s", -7), ("raised", "s", True), ("raised", "s", "2"), ("raised", "s", 10 ** 60),
            ("raised", "s", None), ("turned", "s"), ("turned", "s", (0,)), ("puts", "s", (0,)), ("nothing", "s"), (), ["back", "s"], "back", ("back ", "s"),
            (None, "s"), (["back"], "s"), ({}, "s"), ("put", "s", line_road(FREE23, 62)), ("put", "s", None), ("raised", "s", FAR[0]), (("back", "s"),),
        ]
        for name in NO_NAMES:
            bad += [("put", name, (0,)), ("take", name), ("same", "s", name), ("times", "s", "t", name), ("back", name), ("raised", name, 1), ("turned", name, "s")]
        ahead = state(desk)
        for value in list(JUNK) + bad:
            check_error(self, InvalidOperation(""), desk.do, (value,))
            check_error(self, InvalidOperation(""), desk.do, (("take", "x"), value))
            check_error(self, InvalidOperation(""), desk.do, (("put", "s", (0,)), value, ("back", "t")))
        self.assertEqual(state(desk), ahead)

    def test_moves(self):
        desk = Desk(FREE23)
        for call in (
            lambda: desk.do(), lambda: desk.do(("put", "a", (0,)), ("take", "a")), lambda: desk.twin(), lambda: desk.is_true(("nothing", "a")),
        ):
            call()
            self.assertEqual(desk.past, 0)
        desk.do(("put", "a", (1,)))
        for deeds in ((("put", "a", (1,)),), (("back", "a"),), (("raised", "a", 3),), (("same", "a", "a"),), (("put", "a", (1, 1, 0, -1, 0)),), ()):
            desk.do(*deeds)
            self.assertEqual(desk.past, 1)
        desk.say(("order", "a", 2))
        desk.say(("order", "a", 2))
        self.assertEqual(desk.past, 2)
        desk.unsay(("order", "a", 2))
        self.assertEqual(desk.past, 3)
        desk.undo()
        self.assertEqual((desk.past, desk.sayings), (2, (("order", "a", 2),)))
        desk.undo(2)
        self.assertEqual((desk.past, desk.kept, desk.sayings), (0, {}, ()))

    def test_undo(self):
        desk = desk_of()
        for value in (0, -1, True, None, "1", (1,), [1], {}, 10 ** 60, -10 ** 60, 10 ** 99, nested(8), TWO):
            check_error(self, InvalidNumber(value), desk.undo, (value,))
        for steps in (2, 5, 10 ** 60 - 1):
            check_error(self, NothingToUndo(steps), desk.undo, (steps,))
        self.assertEqual(desk.past, 1)
        for at in range(5):
            desk.do(("put", "abcde"[at], (1,)))
        self.assertIsNone(desk.undo(3))
        self.assertEqual((desk.past, list(desk)), (3, ["a", "b", "s", "st", "t"]))
        desk.undo(3)
        check_error(self, NothingToUndo(1), desk.undo, ())
        self.assertEqual(desk, Desk(FREE23))

    def test_twins(self):
        desk = desk_of()
        desk.say(("order", "s", 2))
        twin = desk.twin()
        self.assertEqual((twin, state(twin)), (desk, state(desk)))
        twin.do(("put", "x", (0,)))
        twin.unsay(("order", "s", 2))
        self.assertEqual((desk.past, len(desk), desk.sayings, twin.past), (2, 3, (("order", "s", 2),), 4))
        self.assertNotEqual(desk, twin)
        desk.undo(2)
        self.assertEqual((len(twin), twin.past), (4, 4))
        twin.undo(4)
        self.assertEqual((desk, state(desk)), (twin, state(twin)))

    def test_as_values(self):
        desk = desk_of()
        for name in NO_NAMES + JUNK + ("x", "ninechar"):
            self.assertIs(name in desk, False)
            with self.assertRaises(UnknownName) as caught:
                desk[name]
            self.assertIs(caught.exception.wanted, name)
        self.assertTrue("s" in desk and desk["s"] == (1,) and list(desk) == ["s", "st", "t"] and len(desk) == 3)
        kept = desk.kept
        kept["s"] = (0,)
        kept["y"] = (0,)
        self.assertEqual((desk["s"], "y" in desk, type(desk.kept), type(desk.sayings)), ((1,), False, dict, tuple))
        # The sequence of moves does not matter, that of sayings does; so do webs and words.
        other = Desk(Web((TWO, THREE), ((0, 1, IDLE),)))
        other.do(("put", "t", THIRD))
        other.do(("put", "s", (1,)), ("put", "st", WALK))
        self.assertEqual(desk, other)
        self.assertTrue(not desk != other)
        for one in (("order", "s", 2), ("order", "t", 3)):
            desk.say(one)
        for one in (("order", "t", 3), ("order", "s", 2)):
            other.say(one)
        self.assertNotEqual(desk, other)
        self.assertNotEqual(Desk(FREE23), Desk(FLAT))
        for value in JUNK + ({}, FREE23, desk.kept):
            self.assertTrue(desk != value and not desk == value)
        self.assertEqual(str(desk), "desk of 3 words, 2 sayings")
        self.assertEqual((desk.web, str(Desk(LOOP))), (FREE23, "desk of 0 words, 0 sayings"))
        for value in NO_WEBS:
            check_error(self, InvalidWeb(""), Desk, (value,))
        for name in ("web", "kept", "sayings", "past"):
            with self.assertRaises(AttributeError):
                setattr(desk, name, 1)

    def test_walking_while_changing(self):
        desk = desk_of()
        for name in desk:
            desk.do(("put", "x" + name, (0,)))
        self.assertEqual(list(desk), ["s", "st", "t", "xs", "xst", "xt"])

    def test_large_rooms(self):
        wide = Web((WHOLE,), ((0, 0, IDLE),))
        word = (5,) + (1, 3) * 24
        desk = Desk(wide)
        desk.do(("put", "a", word), ("put", "b", (1,) + (1, 2) * 24), ("put", "c", (7,) + (-1, 2) * 24))
        desk.say(("within", "a", ("a", "b", "c")))
        desk.say(("length", "a", 24))
        self.assertIs(desk.is_true(("within", "a", ("b", "c"))), False)
        self.assertIs(desk.is_true(("within", "c", ("c", "a", "c"))), True)
        own = own_web(FREE23, ((1,), (0, 1, 1, -1, 1, 1, 2, -1, 0)))
        desk = Desk(own)
        words = [word for ties in range(3) for word in plain_words(own, ties)]
        for at, word in enumerate(words[:6]):
            desk.do(("put", "abcdef"[at], word))
        self.assertEqual(list(desk.kept.values()), words[:6])


if __name__ == "__main__":
    unittest.main()
