"""Texts: schedules and stores, written as text and read back."""

from mergebudget.errors import Exhausted, InvalidMerge, InvalidPolicy, InvalidSchedule, InvalidText
from mergebudget.schedules import is_schedule
from mergebudget.store import Store, is_key

MOST_DIGITS = 60
NOTHING = "-"


def number_in(word):
    """The count that a word shows in decimal notation, or None if it shows none."""
    if not 1 <= len(word) <= MOST_DIGITS or not all(["0" <= sign <= "9" for sign in word]):
        return None
    if word[0] == "0" and len(word) > 1:
        return None
    return int(word)


def value_in(word):
    """The int that a word shows, with a leading `-` if it is below 0, or None if it shows none."""
    if not word.startswith("-"):
        return number_in(word)
    number = number_in(word[1:])
    return -number if number else None


def joined_words(words):
    """The words with single spaces between them, or `-` if there are none."""
    return " ".join(words) if words else NOTHING


def show_schedule(schedule):
    """The schedule text."""
    if not is_schedule(schedule):
        raise InvalidSchedule(schedule)
    return joined_words([str(merge) for merge in schedule])


def read_schedule(text):
    """The schedule with this text."""
    if not isinstance(text, str):
        raise InvalidText(0)
    if text == NOTHING:
        return ()
    schedule = tuple([number_in(word) for word in text.split(" ")])
    if not is_schedule(schedule):
        raise InvalidText(0)
    return schedule


def show_store(store):
    """The store text of a store."""
    lines = [" ".join(["store"] + [str(part) for part in store.policy()])]
    for merge, entries in zip(store.schedule(), store.flushed()):
        lines.append(" ".join(["flush", str(merge)] + shown_entries(entries)))
    lines.append(" ".join(["pending"] + shown_entries(store.pending())))
    return "\n".join(lines)


def shown_entries(entries):
    """One word for each entry."""
    return [f"{key}={NOTHING if value is None else value}" for key, value in entries]


def read_store(text):
    """The store with this text."""
    if not isinstance(text, str):
        raise InvalidText(0)
    lines = text.split("\n")
    store = store_from(lines[0])
    for number in range(1, len(lines)):
        words = lines[number].split(" ")
        if words[0] == "pending":
            return finished_store(store, words, number, len(lines))
        if not takes_flush(store, words):
            raise InvalidText(number)
    raise InvalidText(len(lines))


def store_from(line):
    """An empty store with the policy of the first line."""
    words = line.split(" ")
    if words[0] != "store":
        raise InvalidText(0)
    # A word that is no number becomes None here, which no policy has.
    policy = tuple(words[1:2] + [number_in(word) for word in words[2:]])
    try:
        return Store(policy)
    except InvalidPolicy:
        raise InvalidText(0) from None


def takes_flush(store, words):
    """Whether the words are a line of a flush that the store accepts; then it is applied."""
    if words[0] != "flush" or len(words) < 2:
        return False
    merge = number_in(words[1])
    return merge is not None and takes_entries(store, words[2:]) and flushes_with(store, merge)


def takes_entries(store, words):
    """Whether the words are entries by ascending key; then they are written to the buffer."""
    entries = [entry_in(word) for word in words]
    if any([entry is None for entry in entries]):
        return False
    keys = [entry[0] for entry in entries]
    if not all([key < following for key, following in zip(keys, keys[1:])]):
        return False
    for key, value in entries:
        if value is None:
            store.delete(key)
        else:
            store.put(key, value)
    return True


def entry_in(word):
    """The pair (key, value) that a word shows, with None as the value of a deletion, or None if it shows none."""
    key, sign, shown = word.partition("=")
    if not is_key(key):
        return None
    if shown == NOTHING:
        return (key, None)
    value = value_in(shown)
    return None if value is None else (key, value)


def flushes_with(store, merge):
    """Whether the store accepts a flush, and merges just so many runs; then it is applied."""
    passed = merge if store.policy() == ("manual",) else None
    try:
        return store.flush(passed) == merge
    except (InvalidMerge, Exhausted):
        return False


def finished_store(store, words, number, many):
    """The store with the entries of its last line, if they are right and there is no further line."""
    if not takes_entries(store, words[1:]):
        raise InvalidText(number)
    if number + 1 < many:
        raise InvalidText(number + 1)
    # What was written so far is no history of the store that is read.
    return store.copy()
