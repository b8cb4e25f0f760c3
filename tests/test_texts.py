import copy
import itertools
import random
import re
import unittest

from mergebudget.errors import InvalidSchedule, InvalidText, NothingToUndo
from mergebudget.policies import policy_schedule
from mergebudget.schedules import all_schedules
from mergebudget.store import Store
from mergebudget.texts import read_schedule, read_store, show_schedule, show_store
from tests.samples import (
    assert_same, fixed_values, long_schedules, merges_nothing, plain_is_schedule, random_values, wrong_schedules,
)  # fmt: skip
from tests.stores import (
    NUMBER, POLICIES, PlainStore, entries_of, facts, outcome, plain_read_store, plain_store_text, random_store,
)  # fmt: skip

NINES = "9" * 60
WORDS = (
    "", "0", "1", "2", "00", "01", "-1", "+1", "-0", "1 ", "60", "61", NINES, NINES + "9", "1" + "0" * 59,
    "1" + "0" * 60, "a", "a=1", "a=-", "z=0", "a=", "=1", "=", "a=1=2", "A=1", "a=01", "a=-0", "a=+1", "a=--1", "a=- ",
    "abcdefgh=5", "abcdefghi=5", "a1=1", "a=1a", "a=None", "a=" + NINES, "a=-" + NINES, "a=9" + NINES, "a=-9" + NINES,
    "-", "--", "store", "flush", "pending", "manual", "runs", "budget", "~", "a =1", "a= 1", "b=-7", "m=3", "1_0",
    "0x1", "1.0", "a=1.0", "a=1_0", "a:1", "zz=9", "\t", "Flush", "PENDING", "flush,", "9" * 5000, "a=" + "9" * 5000,
)  # fmt: skip


def sample_texts(seed, many):
    """Texts of random stores of all policies, with and without pending entries."""
    rng = random.Random(seed)
    found = []
    for policy in POLICIES:
        for turn in range(many):
            found.append(plain_store_text(random_store(rng, PlainStore, policy, rng.choice((0, 3, 10, 30)))))
    return found


def changed_texts(rng, text, many):
    """Variants of a text with one thing changed anywhere; some may still be right."""
    lines = text.split("\n")
    found = []
    for turn in range(many):
        at = rng.randrange(len(lines))
        line = lines[at]
        words = line.split(" ")
        place = rng.randrange(len(words))
        other = rng.randrange(len(words))
        sign = rng.randrange(len(line) + 1)
        new = rng.choice((
            [], [line, line], [line, ""], ["", line], [line, "pending"], [line, "flush 0"], [line, "flush 1"],
            [line + " "], [" " + line], [line.replace(" ", "  ", 1)], [line + "\t"], [line.upper()],
            [line[:sign] + line[sign + 1 :]], [line[:sign] + rng.choice("0159-+= az~\n") + line[sign:]],
            [" ".join(words[:place] + words[place + 1 :])], [" ".join(words[:place] + [words[place]] + words[place:])],
            [" ".join(words[:place] + [rng.choice(WORDS)] + words[place:])],
            [" ".join(words[:place] + [rng.choice(WORDS)] + words[place + 1 :])],
            [" ".join(words + [rng.choice(WORDS)])], [swapped(words, place, other)],
            [" ".join(words[:place] + [bumped(rng, words[place])] + words[place + 1 :])],
            [rng.choice(lines)], [line, rng.choice(lines)], [rng.choice(WORDS)], ["flush " + rng.choice(WORDS)],
        ))  # fmt: skip
        changed = lines[:at] + new + lines[at + 1 :]
        if rng.random() < 0.1:
            one, two = rng.randrange(len(lines)), rng.randrange(len(lines))
            changed = list(lines)
            changed[one], changed[two] = changed[two], changed[one]
        found.append("\n".join(changed))
    return found


def swapped(words, place, other):
    words = list(words)
    words[place], words[other] = words[other], words[place]
    return " ".join(words)


def bumped(rng, word):
    """A word with its number one more or less, a leading zero or a sign."""
    if "=" in word:
        key, shown = word.split("=", 1)
        return rng.choice((key + key, key[:-1], key, key.upper())) + "=" + bumped(rng, shown)
    if word.isdigit() and len(word) < 70:
        return rng.choice((str(int(word) + 1), str(int(word) - 1), "0" + word, "-" + word, "+" + word, word + "0"))
    return rng.choice(("-" + word, word + word, word + "x"))


class ScheduleTextTest(unittest.TestCase):
    def test_there_and_back(self):
        short = [schedule for n in range(7) for schedule in all_schedules(n)]
        for schedule in short + long_schedules():
            text = show_schedule(schedule)
            assert_same(self, text, " ".join(map(str, schedule)) if schedule else "-")
            assert_same(self, read_schedule(text), schedule)
            assert_same(self, show_schedule(read_schedule(text)), text)
        assert_same(self, read_schedule(text=show_schedule(schedule=(0, 0, 2))), (0, 0, 2))

    def test_wrong_schedules(self):
        for schedule in wrong_schedules()[::5]:
            before = copy.deepcopy(schedule)
            with self.assertRaises(InvalidSchedule) as caught:
                show_schedule(schedule)
            self.assertIs(caught.exception.value, schedule)
            self.assertEqual(repr(schedule), repr(before))

    def check(self, text):
        """A text is read, or refused with the line 0, as a plain reader says."""
        wanted = ("raises", "InvalidText", 0)
        if type(text) is str and (text == "-" or re.fullmatch(f"{NUMBER}( {NUMBER})*", text)):
            schedule = () if text == "-" else tuple(map(int, text.split(" ")))
            if plain_is_schedule(schedule):
                wanted = ("returns", schedule)
        assert_same(self, outcome(lambda: read_schedule(text)), wanted)

    def test_changed_texts(self):
        rng = random.Random(111)
        for schedule in long_schedules()[::3]:
            text = show_schedule(schedule)
            for changed in changed_texts(rng, text, 20):
                self.check(changed)
                for twice in changed_texts(rng, changed, 2):
                    self.check(twice)

    def test_known_texts(self):
        for text in ("", "-", "0", " ", "0 ", " 0", "0  0", "0\n", "0\n0", "- ", "--", "0 -", "-0", "00", "0 01"):
            self.check(text)
        for word in WORDS:
            for text in (word, "0 " + word, word + " 0", "0 0 " + word):
                self.check(text)
        self.check("0 " * 59 + "0")
        self.check("0 " * 60 + "0")
        self.check("0 " * 1000 + "0")
        self.check(("0 " + "1 " * 60)[:-1])
        self.check(" ".join(["0"] * 59 + ["59"]))
        self.check(" ".join(["0"] * 59 + ["60"]))
        self.check("0 " + "1" * 100000)

    def test_values_of_any_kind(self):
        for value in fixed_values() + random_values(200) + [(0,), b"0", ["0"], ("0", " ", "0"), 0]:
            before = copy.deepcopy(value)
            self.check(value)
            self.assertEqual(repr(value), repr(before))


class StoreTextTest(unittest.TestCase):
    def test_written_read_and_written_again(self):
        rng = random.Random(112)
        for policy in POLICIES:
            for many in (0, 1, 2, 5, 20, 60, 120):
                store = random_store(rng, Store, policy, many)
                store.read("a")
                before = facts(store)
                text = show_store(store)
                assert_same(self, facts(store), before)
                twin = read_store(text)
                self.assertIs(type(twin), Store)
                self.assertTrue(twin == store and store == twin)
                assert_same(self, facts(twin), before | {"visited": 0})
                assert_same(self, entries_of(twin), entries_of(store))
                assert_same(self, show_store(twin), text)
                self.assertEqual(outcome(twin.undo)[1], NothingToUndo.__name__)
        assert_same(self, show_store(store=read_store(text="store manual\npending")), "store manual\npending")

    def test_texts_as_the_document_describes_them(self):
        rng = random.Random(113)
        for policy in POLICIES:
            for many in (0, 5, 40):
                state = rng.getstate()
                text = show_store(random_store(rng, Store, policy, many))
                rng.setstate(state)
                assert_same(self, text, plain_store_text(random_store(rng, PlainStore, policy, many)))

    def test_stores_that_are_read_live_on(self):
        rng = random.Random(114)
        for text in sample_texts(115, 2):
            store, plain = read_store(text), plain_read_store(text)
            for turn in range(20):
                name = rng.choice(("put", "delete", "flush", "undo"))
                merge = (rng.randint(0, len(plain.stack())),) if plain.policy() == ("manual",) else ()
                arguments = {"put": ("q", turn), "delete": ("q",), "flush": merge, "undo": ()}[name]
                found = outcome(lambda: getattr(store, name)(*arguments))
                assert_same(self, found, outcome(lambda: getattr(plain, name)(*arguments)))
                assert_same(self, facts(store), facts(plain))

    def check(self, text):
        """A text is read, or refused with the first wrong line, as a plain reader says."""
        wanted = plain_read_store(text)
        found = outcome(lambda: read_store(text))
        if type(wanted) is int:
            assert_same(self, found, ("raises", "InvalidText", wanted))
            return False
        self.assertEqual(found[0], "returns", (text, found))
        assert_same(self, facts(found[1]), facts(wanted))
        assert_same(self, show_store(found[1]), text)
        return True

    def test_every_beginning_by_lines(self):
        for text in sample_texts(116, 2):
            lines = text.split("\n")
            for many in range(len(lines)):
                part = "\n".join(lines[:many])
                assert_same(self, outcome(lambda: read_store(part)), ("raises", "InvalidText", many))
                self.check(part)
            self.check(text)
            for more in ("\n", "\npending", "\nflush 0", "\n ", " ", "\n" + text):
                self.check(text + more)

    def test_one_thing_changed(self):
        rng = random.Random(117)
        accepted = refused = 0
        for text in sample_texts(118, 4):
            for changed in changed_texts(rng, text, 60):
                if self.check(changed):
                    accepted += 1
                else:
                    refused += 1
        self.assertGreater(accepted, 50)
        self.assertGreater(refused, 1000)

    def test_two_things_changed(self):
        rng = random.Random(119)
        for text in sample_texts(120, 2):
            for changed in changed_texts(rng, text, 20):
                for twice in changed_texts(rng, changed, 4):
                    self.check(twice)

    def test_first_lines(self):
        words = ("manual", "runs", "budget", "store", "") + WORDS[:16]
        for many in range(4):
            for chosen in itertools.product(words, repeat=many) if many < 3 else ():
                self.check(" ".join(("store",) + chosen) + "\npending")
        for k, c in itertools.product(("0", "1", "2", "60", "61", "01", "-1", "", "x", NINES), repeat=2):
            self.check(f"store runs {k}\npending")
            self.check(f"store budget {k} {c}\npending")
            self.check(f"store budget {k} {c} 1\npending")
        lines = ["", " ", "Store manual", "store manual ", " store manual", "store  manual", "manual", "store\tmanual"]
        for line in lines:
            self.check(line + "\npending")
            assert_same(self, outcome(lambda: read_store(line + "\npending")), ("raises", "InvalidText", 0))

    def test_words_of_lines(self):
        for word, other in itertools.product(WORDS, WORDS[:1] + ("a=1", "b=2", "z=-", "ab=3")):
            flushes = [f"flush 0 {word}", f"flush 0 {word} {other}", f"flush 0 {other} {word}", f"flush {word}", word]
            for line in flushes:
                self.check(f"store manual\n{line}\npending")
            for line in (f"pending {word}", f"pending {word} {other}", f"pending {other} {word}", word):
                self.check(f"store manual\n{line}")
                self.check(f"store runs 2\nflush 0\n{line}")

    def test_keys_ascend_strictly(self):
        words = ("a=1", "a=-", "aa=0", "ab=2", "b=3", "z=-4", "abcdefgh=1")
        for chosen in itertools.permutations(words, 3):
            self.check("store manual\nflush 0 " + " ".join(chosen) + "\npending")
            self.check("store manual\npending " + " ".join(chosen))
        for word in words:
            self.assertFalse(self.check(f"store manual\npending {word} {word}"))
        self.assertTrue(self.check("store manual\nflush 0 z=1\nflush 0 a=1\npending"))

    def test_merges_that_a_flush_would_not_choose(self):
        for policy in ("runs 1", "runs 2", "runs 3", "budget 2 2", "budget 3 2", "budget 1 4", "runs 60"):
            k = int(policy.split(" ")[1])
            right = [f"flush {merge}" for merge in policy_schedule(k, 4)]
            self.check("\n".join([f"store {policy}"] + right + ["pending"]))
            for at, merge in itertools.product(range(4), range(4)):
                lines = right[:at] + [f"flush {merge}"] + right[at + 1 :]
                self.check("\n".join([f"store {policy}"] + lines + ["pending"]))

    def test_exhausted_budgets(self):
        for k, c, many in ((1, 1, 1), (2, 2, 5), (1, 3, 3), (3, 1, 3), (2, 3, 9)):
            for flushes in range(many + 3):
                lines = [f"flush {merge}" for merge in policy_schedule(k, flushes)]
                text = "\n".join([f"store budget {k} {c}"] + lines + ["pending"])
                self.assertEqual(self.check(text), flushes <= many)
                if flushes > many:
                    assert_same(self, outcome(lambda: read_store(text)), ("raises", "InvalidText", many + 1))

    def test_the_sixty_first_flush(self):
        for head, merges in (
            ("store manual", merges_nothing(62)), ("store manual", (0,) + (1,) * 61), ("store runs 2", None),
            ("store runs 60", None), ("store budget 60 60", None), ("store budget 60 1", None),
        ):  # fmt: skip
            chosen = merges or policy_schedule(int(head.split(" ")[2]), 60) + (1, 1)
            for many in (59, 60, 61, 62):
                lines = [f"flush {merge} a={at}" for at, merge in enumerate(chosen[:many])]
                text = "\n".join([head] + lines + ["pending b=1"])
                self.assertEqual(self.check(text), many <= 60)
                if many > 60:
                    assert_same(self, outcome(lambda: read_store(text)), ("raises", "InvalidText", 61))
                assert_same(self, outcome(lambda: read_store(text.replace("\npending b=1", ""))),
                            ("raises", "InvalidText", min(many + 1, 61)))  # fmt: skip

    def test_known_texts(self):
        for text, number in (
            ("", 0), ("\n", 0), ("pending", 0), ("store manual", 1), ("store manual\n", 1),
            ("store manual\n\npending", 1),
            ("store manual\npending\n", 2), ("store manual\npending\npending", 2), ("store manual\npending x", 1),
            ("store manual\nflush 0\nflush 2\npending", 2), ("store manual\nflush 1\npending", 1),
            ("store manual\nflush\npending", 1), ("store manual\nflush 0", 2),
            ("store manual\nstore manual\npending", 1),
            ("store manual\nflush 0 a=1 a=2\npending", 1), ("store manual\nflush 0 b=1 a=2\npending", 1),
            ("store manual\npending a=1\nflush 0", 2), ("store manual\npending a=1 \nflush 0", 1),
            ("store runs 0\npending", 0), ("store runs 2\nflush 0\nflush 0\nflush 0\npending", 3),
        ):  # fmt: skip
            self.check(text)
            assert_same(self, outcome(lambda: read_store(text)), ("raises", "InvalidText", number))

    def test_values_of_any_kind(self):
        for value in fixed_values() + random_values(200) + [("store manual", "pending"), b"store manual\npending"]:
            if type(value) is not str:
                before = copy.deepcopy(value)
                with self.assertRaises(InvalidText) as caught:
                    read_store(value)
                assert_same(self, caught.exception.value, 0)
                self.assertEqual(repr(value), repr(before))
            else:
                self.check(value)

    def test_values_of_sixty_digits(self):
        store = Store(("manual",))
        store.put("a", 10**60 - 1)
        store.put("b", -(10**60 - 1))
        store.put("c", 10**59)
        store.flush(0)
        text = show_store(store)
        assert_same(self, text, f"store manual\nflush 0 a={NINES} b=-{NINES} c=1{'0' * 59}\npending")
        self.assertEqual(read_store(text), store)
        self.assertFalse(self.check(text.replace("c=1", "c=10")))


if __name__ == "__main__":
    unittest.main()
