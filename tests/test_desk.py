import copy
import inspect
import itertools
import random
import re
import unittest

from mergebudget.desk import Desk
from mergebudget.errors import InvalidLine, InvalidText
from mergebudget.optimum import least_work
from mergebudget.states import remaining
from mergebudget.store import Store
from mergebudget.texts import read_store, show_schedule, show_store
from tests.samples import assert_same, fixed_values, random_values
from tests.stores import ENTRY, KEYS, NUMBER, POLICIES, PlainStore, outcome, plain_store_text, random_store

NINES = "9" * 60
KEY = "([a-z]{1,8})"
VALUE = "(0|-?[1-9][0-9]{0,59})"
FORMS = (
    f"put {KEY} {VALUE}", f"delete {KEY}", "undo", "flush", f"flush ({NUMBER})", f"read {KEY}",
    f"read {KEY} ({NUMBER})", "present", f"present ({NUMBER})", "stack", "state", "schedule", "written", "visited",
    "remaining", f"least((?: {NUMBER})*)", "text",
)  # fmt: skip
OTHER_WORDS = (
    "", "0", "1", "2", "7", "00", "01", "-1", "-0", "+1", "-", "a", "b", "abcdefgh", "abcdefghi", "A", "a1", "a=1", "~",
    NINES, "-" + NINES, "9" + NINES, "-9" + NINES, "1" * 5000, "1000000000", "1000000001", "put", "flush", "undo", "\n",
    "1\n", "a\n", "\t", "None", "1.0", "1_0", "x y",
)  # fmt: skip


def is_command(line):
    return type(line) is str and any(re.fullmatch(form, line) for form in FORMS)


def joined(parts):
    return " ".join(map(str, parts)) or "-"


def answered(store, line):
    """What a store answers to a command, by the same calls of its methods."""
    word, *rest = line.split(" ")
    if word == "put":
        return "done" if store.put(rest[0], int(rest[1])) is None else "?"
    if word == "delete":
        return "done" if store.delete(rest[0]) is None else "?"
    if word == "undo":
        return "done" if store.undo() is None else "?"
    numbers = [int(part) for part in rest if re.fullmatch(NUMBER, part)]
    if word == "flush":
        return str(store.flush(*numbers))
    moment = {"moment": numbers[0]} if numbers and word in ("read", "present") else {}
    if word == "read":
        found = store.read(rest[0], **moment)
        return "-" if found is None else str(found)
    if word == "present":
        return joined(store.present(**moment))
    if word == "stack":
        return joined(f"{start}..{stop}" for start, stop in store.stack())
    if word == "state":
        return joined(store.state())
    if word == "schedule":
        return show_schedule(store.schedule())
    if word in ("written", "visited"):
        return str(getattr(store, word)())
    if word == "remaining":
        name, *budgets = store.policy()
        return str(remaining(store.state(), *budgets)) if name == "budget" else "-"
    if word == "least":
        work, schedule = least_work(store.sizes(), tuple(numbers))
        return f"{work} {show_schedule(schedule)}"
    return show_store(store).replace("\n", " / ")


def random_line(rng, store):
    """A command for a store of this state; some are refused by its methods."""
    moment = rng.randint(0, len(store) + (rng.random() < 0.2))
    merge = rng.randint(0, len(store.stack()) + (rng.random() < 0.1))
    reads = [rng.choice((0, 1, 2, 10**9)) for flush in range(len(store) + rng.choice((0, 0, 0, 0, 1, -1)))]
    value = rng.choice((0, 1, -1, rng.randint(-99, 99), 10**59, 1 - 10**60))
    key = rng.choice(KEYS)
    lines = [f"put {key} {value}"] * 5 + [f"delete {key}"] * 2 + [f"read {key}"] * 2 + [f"read {key} {moment}"] * 2
    lines += [f"flush {merge}" if store.policy() == ("manual",) else "flush"] * 6 + ["undo"] * 2
    lines += ["flush", f"flush {merge}", "present", f"present {moment}", "stack", "state", "schedule", "written"]
    lines += ["visited", "remaining", "text", " ".join(["least"] + list(map(str, reads)))]
    return rng.choice(lines)


def sample_texts(seed):
    rng = random.Random(seed)
    texts = ["store manual\npending"]
    for policy in POLICIES:
        texts.extend(plain_store_text(random_store(rng, PlainStore, policy, many)) for many in (0, 8, 25))
    return texts


class CreationTest(unittest.TestCase):
    def test_default_text(self):
        assert_same(self, inspect.signature(Desk).parameters["text"].default, "store manual\npending")
        assert_same(self, Desk().say("text"), "store manual / pending")
        assert_same(self, [Desk().say("flush 0"), Desk().say("schedule"), Desk().say("remaining")], ["0", "-", "-"])

    def test_desks_share_nothing(self):
        one, other = Desk(), Desk()
        one.say("put a 1")
        assert_same(self, other.say("text"), "store manual / pending")

    def test_texts_by_position_and_by_name(self):
        for text in sample_texts(121):
            for desk in (Desk(text), Desk(text=text)):
                assert_same(self, desk.say("text"), text.replace("\n", " / "))
                assert_same(self, desk.say(line="visited"), "0")

    def test_wrong_texts(self):
        texts = ["", "store", "store manual", "store manual\nflush 1\npending", "store manual\npending\n", "x\npending"]
        for text in texts + fixed_values() + random_values(60):
            before = copy.deepcopy(text)
            wanted = outcome(lambda: read_store(text))
            self.assertEqual(wanted[:2], ("raises", InvalidText.__name__))
            assert_same(self, outcome(lambda: Desk(text)), wanted)
            self.assertEqual(repr(text), repr(before))

    def test_say_stands_in_the_class(self):
        self.assertIn("say", vars(Desk))
        self.assertEqual(list(inspect.signature(Desk.say).parameters), ["self", "line"])


class CommandsTest(unittest.TestCase):
    def follow(self, rng, text, many):
        """A desk and a store, led by the same commands."""
        desk, store = Desk(text), read_store(text)
        for turn in range(many):
            line = random_line(rng, store)
            self.assertTrue(is_command(line), line)
            found = outcome(lambda: desk.say(line))
            assert_same(self, found, outcome(lambda: answered(store, line)))
            self.assertTrue(found[0] == "raises" or type(found[1]) is str)
        assert_same(self, desk.say("text"), show_store(store).replace("\n", " / "))
        return desk, store

    def test_histories(self):
        rng = random.Random(122)
        for text in sample_texts(123):
            self.follow(rng, text, 80)

    def test_text_read_into_a_further_desk_amid_a_history(self):
        rng = random.Random(124)
        for text in sample_texts(125)[::3]:
            desk, store = self.follow(rng, text, 40)
            further = Desk(desk.say("text").replace(" / ", "\n"))
            assert_same(self, outcome(lambda: further.say("undo")), ("raises", "NothingToUndo", "no value"))
            assert_same(self, further.say("visited"), "0")
            twin = store.copy()
            for turn in range(30):
                line = random_line(rng, twin)
                assert_same(self, outcome(lambda: further.say(line)), outcome(lambda: answered(twin, line)))
            assert_same(self, desk.say("text"), show_store(store).replace("\n", " / "))

    def test_known_by_hand(self):
        desk = Desk()
        for line, answer in (
            ("stack", "-"), ("state", "-"), ("schedule", "-"), ("present", "-"), ("written", "0"), ("visited", "0"),
            ("least", "0 -"), ("remaining", "-"), ("read a", "-"), ("put b 2", "done"), ("put a -1", "done"),
            ("read a", "-1"), ("visited", "0"), ("text", "store manual / pending a=-1 b=2"), ("flush 0", "0"),
            ("delete a", "done"), ("put c 0", "done"), ("flush 0", "0"), ("stack", "0..1 1..2"), ("state", "1 1"),
            ("present", "b c"), ("present 1", "a b"), ("present 0", "-"), ("read a", "-"), ("read c", "0"),
            ("read a 1", "-1"), ("read a 0", "-"), ("visited", "3"), ("sizes", None), ("written", "4"),
            ("flush 2", "2"), ("written", "8"), ("schedule", "0 0 2"), ("stack", "0..3"), ("state", "2"),
            ("least 1 1 1", "10 0 0 0"),
            ("text", "store manual / flush 0 a=-1 b=2 / flush 0 a=- c=0 / flush 2 / pending"),
            ("undo", "done"), ("stack", "0..1 1..2"), ("undo", "done"),
            ("text", "store manual / flush 0 a=-1 b=2 / pending a=- c=0"),
        ):  # fmt: skip
            if answer is None:
                self.assertEqual(outcome(lambda: desk.say(line)), ("raises", "InvalidLine", line))
            else:
                assert_same(self, desk.say(line), answer)

    def test_remaining(self):
        for policy in POLICIES:
            desk = Desk(" ".join(map(str, ("store",) + policy)) + "\npending")
            store = Store(policy)
            for flush in range(12):
                wanted = str(remaining(store.state(), *policy[1:])) if policy[0] == "budget" else "-"
                assert_same(self, desk.say("remaining"), wanted)
                line = "flush 0" if policy == ("manual",) else "flush"
                if outcome(lambda: answered(store, line))[0] == "raises":
                    self.assertEqual(wanted, "0")
                    assert_same(self, outcome(lambda: desk.say(line)), ("raises", "Exhausted", "no value"))
                    break
                desk.say(line)

    def test_least(self):
        for text, flushes in (
            ("store manual\npending", 0), ("store manual\nflush 0 a=1\npending", 1),
            ("store manual\nflush 0 a=1 b=2\nflush 0\nflush 1 c=1\npending d=1", 3),
            ("store runs 2\nflush 0 a=1\nflush 0 b=2 c=3\npending", 2),
        ):  # fmt: skip
            desk, store = Desk(text), read_store(text)
            for many in range(6):
                for load in (0, 1, 10**9, 10**9 + 1, 10**60 - 1):
                    reads = (load,) * many
                    line = " ".join(["least"] + list(map(str, reads)))
                    if many != flushes or load > 10**9 and many:
                        wanted = ("raises", "InvalidReads", reads)
                    else:
                        work, schedule = least_work(store.sizes(), reads)
                        wanted = ("returns", f"{work} {joined(schedule)}")
                    assert_same(self, outcome(lambda: desk.say(line)), wanted)
            assert_same(self, desk.say("text"), text.replace("\n", " / "))

    def test_least_with_one_read_too_great(self):
        desk = Desk("store manual\nflush 0\nflush 0\nflush 0\npending")
        for at in range(3):
            reads = [5, 5, 5]
            reads[at] = 10**9 + 1
            line = " ".join(["least"] + list(map(str, reads)))
            assert_same(self, outcome(lambda: desk.say(line)), ("raises", "InvalidReads", tuple(reads)))

    def test_errors_of_the_methods(self):
        for text, line, wanted in (
            ("store manual\npending", "flush", ("InvalidMerge", None)),
            ("store manual\npending", "flush 1", ("InvalidMerge", 1)),
            ("store runs 2\npending", "flush 0", ("InvalidMerge", 0)),
            ("store budget 1 1\npending", "flush 0", ("InvalidMerge", 0)),
            ("store budget 1 1\nflush 0\npending", "flush", ("Exhausted", "no value")),
            ("store budget 1 1\nflush 0\npending", "flush 0", ("InvalidMerge", 0)),
            ("store manual\npending a=1", "undo", ("NothingToUndo", "no value")),
            ("store manual\nflush 0\npending", "read a 2", ("InvalidMoment", 2)),
            ("store manual\nflush 0\npending", "present 2", ("InvalidMoment", 2)),
            ("store manual\nflush 0\npending", "read a " + NINES, ("InvalidMoment", 10**60 - 1)),
            ("store manual\nflush 0\npending", "flush " + NINES, ("InvalidMerge", 10**60 - 1)),
            ("store manual\nflush 0\npending", "least", ("InvalidReads", ())),
            ("store manual\npending", "least 1", ("InvalidReads", (1,))),
        ):  # fmt: skip
            desk = Desk(text)
            assert_same(self, outcome(lambda: desk.say(line)), ("raises",) + wanted)
            assert_same(self, desk.say("text"), text.replace("\n", " / "))
            assert_same(self, desk.say("visited"), "0")


class NoCommandTest(unittest.TestCase):
    def desks(self):
        for text in ("manual\npending", "manual\nflush 0 a=1\nflush 0\npending b=2", "budget 2 2\npending"):
            desk = Desk("store " + text)
            desk.say("put c 3")
            yield desk

    def check(self, desk, line):
        """A line that is no command is refused with the line itself, and nothing changes."""
        if is_command(line):
            return False
        before, text, seen = copy.deepcopy(line), desk.say("text"), desk.say("visited")
        with self.assertRaises(InvalidLine) as caught:
            desk.say(line)
        self.assertIs(type(caught.exception), InvalidLine)
        self.assertIs(caught.exception.value, line)
        self.assertEqual(repr(line), repr(before))
        self.assertEqual((desk.say("text"), desk.say("visited")), (text, seen))
        return True

    def test_all_words_behind_all_commands(self):
        commands = "put delete undo flush read present stack state schedule".split()
        commands += "written visited remaining least text".split()
        others = ["sizes", "pending", "policy", "copy", "", "store", "Put", "puts", "exit", "least,"]
        for desk in self.desks():
            refused = 0
            for command in commands + others:
                for many in range(3):
                    for words in itertools.product(OTHER_WORDS, repeat=many):
                        refused += self.check(desk, " ".join((command,) + words))
                    if many == 1:
                        self.check(desk, command + " a 1 1")
                        self.check(desk, command + " a 1 a")
            self.assertGreater(refused, 10000)
            self.assertTrue(desk.say("undo") == "done" and outcome(lambda: desk.say("undo"))[0] == "raises")

    def test_changed_commands(self):
        rng = random.Random(126)
        right = [
            "put a 1", "put abcdefgh -5", "delete b", "undo", "flush", "flush 1", "read a", "read a 1", "present",
            "present 0", "stack", "state", "schedule", "written", "visited", "remaining", "least", "least 1 2", "text",
        ]  # fmt: skip
        for desk in self.desks():
            for line in right:
                self.assertTrue(is_command(line))
                words = line.split(" ")
                changed = [line + " ", " " + line, line + "\n", "\n" + line, line.upper(), line.replace(" ", "  ")]
                changed += [line.replace(" ", "\n"), line.replace(" ", "\t"), line.replace("1", "01")]
                changed += [line[:-1], line[1:], line + " 0 0", line + " " + line]
                changed += [" ".join(words + words[-1:]), " ".join(words[::-1]), " ".join(words[:-1])]
                changed += [line.replace("a", "A"), line.replace("1", "+1"), line.replace("1", NINES + "1")]
                for turn in range(20):
                    at = rng.randrange(len(line) + 1)
                    changed.append(line[:at] + rng.choice(" 01-+az\n~=") + line[at:])
                    changed.append(line[:at] + line[at + 1 :])
                for other in changed:
                    self.check(desk, other)

    def test_lines_of_any_kind(self):
        values = fixed_values() + random_values(200) + [("undo",), ["undo"], {"undo": 1}, 1, None, True, b"undo", b""]
        for desk in self.desks():
            for value in values:
                self.assertTrue(self.check(desk, value))

    def test_numbers_of_sixty_digits(self):
        desk = Desk()
        assert_same(self, desk.say(f"put a {NINES}"), "done")
        assert_same(self, desk.say("read a"), NINES)
        assert_same(self, desk.say(f"put a -{NINES}"), "done")
        assert_same(self, desk.say("read a"), "-" + NINES)
        for word in ("9" + NINES, "-9" + NINES, "-0", "00", "-01", "0" * 60, "1" * 5000, "-" + "1" * 5000):
            self.assertTrue(self.check(desk, f"put a {word}"))
        self.assertTrue(re.fullmatch(ENTRY, f"a={NINES}"))


if __name__ == "__main__":
    unittest.main()
