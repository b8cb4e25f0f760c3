"""The desk: a store that is led by lines of text."""

from mergebudget.errors import InvalidLine
from mergebudget.optimum import least_work
from mergebudget.states import remaining
from mergebudget.store import is_key
from mergebudget.texts import NOTHING, joined_words, number_in, read_store, show_schedule, show_store, value_in

DONE = "done"


def put_entry(store, key, value):
    """Writes an entry."""
    store.put(key, value)
    return DONE


def delete_entry(store, key):
    """Writes a deletion."""
    store.delete(key)
    return DONE


def undo_step(store):
    """Reverts the last step."""
    store.undo()
    return DONE


def flush_buffer(store, merge=None):
    """Flushes, and tells the number of merged runs."""
    return str(store.flush(merge))


def tell_value(store, key, moment=None):
    """Tells the value of a key."""
    value = store.read(key, moment=moment)
    return NOTHING if value is None else str(value)


def tell_present(store, moment=None):
    """Tells the keys that have a value."""
    return joined_words(store.present(moment=moment))


def tell_stack(store):
    """Tells the runs."""
    return joined_words([f"{start}..{stop}" for start, stop in store.stack()])


def tell_state(store):
    """Tells the state."""
    return joined_words([str(count) for count in store.state()])


def tell_schedule(store):
    """Tells the schedule."""
    return show_schedule(store.schedule())


def tell_written(store):
    """Tells the write work."""
    return str(store.written())


def tell_visited(store):
    """Tells how many runs were searched."""
    return str(store.visited())


def tell_remaining(store):
    """Tells how many further flushes the budgets allow, if the policy has both."""
    policy = store.policy()
    if policy[0] != "budget":
        return NOTHING
    return str(remaining(store.state(), policy[1], policy[2]))


def tell_least(store, *reads):
    """Tells the least work of the sizes so far with these reads, and its schedule."""
    least, schedule = least_work(store.sizes(), reads)
    return f"{least} {show_schedule(schedule)}"


def tell_text(store):
    """Tells the store text in one line."""
    return show_store(store).replace("\n", " / ")


ACTIONS = {
    "put": put_entry,
    "delete": delete_entry,
    "undo": undo_step,
    "flush": flush_buffer,
    "read": tell_value,
    "present": tell_present,
    "stack": tell_stack,
    "state": tell_state,
    "schedule": tell_schedule,
    "written": tell_written,
    "visited": tell_visited,
    "remaining": tell_remaining,
    "least": tell_least,
    "text": tell_text,
}

# The words that may follow a command; behind one that is not listed there are none.
FORMS = {
    "put": ("KEY VALUE",),
    "delete": ("KEY",),
    "flush": ("", "NUMBER"),
    "read": ("KEY", "KEY NUMBER"),
    "present": ("", "NUMBER"),
}


def forms_of(command, many):
    """The forms of `many` words behind a command."""
    if command == "least":
        return [["NUMBER"] * many]
    forms = [form.split() for form in FORMS.get(command, ("",))]
    return [form for form in forms if len(form) == many]


def argument_in(word, kind):
    """What a word of a command means, or None if it is not of this kind."""
    if kind == "KEY":
        return word if is_key(word) else None
    return value_in(word) if kind == "VALUE" else number_in(word)


def arguments_in(command, words):
    """What the words behind a command mean, or None if they have none of its forms."""
    for form in forms_of(command, len(words)):
        arguments = [argument_in(word, kind) for word, kind in zip(words, form)]
        if not any([argument is None for argument in arguments]):
            return arguments
    return None


class Desk:
    """A desk that holds a store and executes commands."""

    def __init__(self, text="store manual\npending"):
        self.store = read_store(text)

    def say(self, line):
        """Executes a command and returns what it tells."""
        if not isinstance(line, str):
            raise InvalidLine(line)
        command, *words = line.split(" ")
        if command not in ACTIONS:
            raise InvalidLine(line)
        arguments = arguments_in(command, words)
        if arguments is None:
            raise InvalidLine(line)
        action = ACTIONS[command]
        store = self.store
        return action(store, *arguments)
