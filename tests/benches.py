"""A plain and slow bench, and random calls to try on it and on the program's."""

from itertools import permutations

from turnsandthrows.errors import (
    CircularDefinition,
    DuplicateName,
    InvalidEdit,
    MachineError,
    NameInUse,
    NotOwn,
    UnknownName,
)

from tests.tools import random_machine

BARE = (((0,),), 0, ())
EVEN = (((1, 0), (0, 1)), 0, (0,))


def outcome(call, *arguments):
    """What the call returns, or the class of the error that it raises, with its column or ring."""
    try:
        return call(*arguments)
    except MachineError as error:
        return type(error), getattr(error, "column", None), getattr(error, "ring", None)


def many_names(count=60):
    """So many different names, ascending."""
    return [f"x{'abcdefghij'[at // 10]}{'abcdefghij'[at % 10]}" for at in range(count)]


def spoken(entry):
    """The names of which the entry speaks."""
    return entry[1:] if entry[0] in ("not", "both", "either", "one") else ()


def hangs_on(entries, name):
    """The set of the names on which the name hangs."""
    found = set()
    for other in spoken(entries[name]):
        found |= {other} | hangs_on(entries, other)
    return found


def state_of(bench):
    """All that a bench tells without making a machine."""
    names = bench.names()
    return names, [bench.entry(name) for name in names], [bench.users(name) for name in names], bench.order()


def all_orders(entries):
    """All orders of the names in which each stands behind those on which it hangs."""
    for row in permutations(sorted(entries)):
        if all(row.index(other) < row.index(name) for name in row for other in hangs_on(entries, name)):
            yield list(row)


class SlowBench:
    """A bench that keeps its edits alone, and works out all else from these.

    A machine that was made is known by the stamps that the name and the names on which it hangs
    had then; an edit gives its name a new stamp.
    """

    def __init__(self):
        self.made = 0
        self.stood = []
        self.gone = []
        self.stamps = {}
        self.clock = 0
        self.known = {}

    def entries(self):
        """The entry of each name, by the edits that stand."""
        found = {}
        for name, entry in self.stood:
            if entry is None:
                del found[name]
            else:
                found[name] = entry
        return found

    def edit(self, name, entry):
        """Make an edit."""
        self.stood.append((name, entry))
        self.gone = []
        self.touch(name)

    def touch(self, name):
        """Give the name a new stamp."""
        self.clock += 1
        self.stamps[name] = self.clock

    def undo(self):
        """Take the last edit back."""
        if not self.stood:
            return False
        self.gone.append(self.stood.pop())
        self.touch(self.gone[-1][0])
        return True

    def redo(self):
        """Do again what was taken back last."""
        if not self.gone:
            return False
        self.stood.append(self.gone.pop())
        self.touch(self.stood[-1][0])
        return True

    def seal(self, name):
        """The stamps on which the machine of the name rests."""
        entries = self.entries()
        return {other: self.stamps[other] for other in {name} | hangs_on(entries, name)}

    def need(self, name, make):
        """The machine of the name; `make(entry, machines)` makes one."""
        entry = self.entries()[name]
        if not isinstance(entry[0], str):
            return entry
        if name in self.known and self.known[name][0] == self.seal(name):
            return self.known[name][1]
        machines = []
        for other in spoken(entry):
            machines.append(self.need(other, make))
        self.made += 1
        machine = make(entry, machines)
        self.known[name] = (self.seal(name), machine)
        return machine


WORDS = ("not", "both", "either", "one")


def random_definition(random, names):
    """A definition that speaks of names, or of none."""
    word = random.choice((*WORDS, "formula"))
    if word == "formula":
        return ("formula", random.choice(("a", "b since a", "before before a", "start")), random.randint(1, 3))
    return (word, *(random.choice(names) for _ in range(1 if word == "not" else 2)))


def random_call(random, names):
    """The name of a method of a bench, and arguments for it."""
    name = random.choice(names)
    word = random.choice(("add", "add", "define", "define", "define", "remove", "set_step", "set_start", "set_good",
                          "add_state", "drop_state", "add_letter", "drop_letter", "undo", "undo", "redo"))
    if word == "add":
        return word, (name, random_machine(random, random.randint(1, 4), random.randint(1, 2)))
    if word == "define":
        return word, (name, random_definition(random, names))
    if word == "set_step":
        return word, (name, random.randint(0, 4), random.choice("abc"), random.randint(0, 4))
    if word == "set_good":
        return word, (name, random.randint(0, 3), random.choice((True, False)))
    if word in ("set_start", "drop_state"):
        return word, (name, random.randint(0, 3))
    return word, () if word in ("undo", "redo") else (name,)



def slow_call(slow, word, arguments):
    """Do on the slow bench what the call of a bench's method should do, by the words of point 29."""
    if word in ("undo", "redo"):
        return getattr(slow, word)()
    entries = slow.entries()
    name = arguments[0]
    if word == "add":
        fail_if(name in entries, DuplicateName)
        return slow.edit(*arguments)
    if word == "define":
        fail_if(name in entries and not isinstance(entries[name][0], str), DuplicateName)
        fail_if(any(other not in entries for other in spoken(arguments[1])), UnknownName)
        fail_if(any(name == other or name in hangs_on(entries, other) for other in spoken(arguments[1])),
                CircularDefinition)
        return slow.edit(*arguments)
    fail_if(name not in entries, UnknownName)
    if word == "remove":
        fail_if(any(name in spoken(entry) for entry in entries.values()), NameInUse)
        return slow.edit(name, None)
    fail_if(isinstance(entries[name][0], str), NotOwn)
    slow.edit(name, edited(entries[name], word, *arguments[1:]))
    return len(entries[name][0]) if word == "add_state" else None


def fail_if(wrong, error):
    """Raise the error if something is wrong."""
    if wrong:
        raise error("")


def edited(machine, word, *arguments):
    """The machine after an edit, made of a dict of its steps; InvalidEdit if it does not fit."""
    letters = "abcd"[:len(machine[0][0])]
    steps = {state: dict(zip(letters, row)) for state, row in enumerate(machine[0])}
    start, good = machine[1], set(machine[2])
    numbers = [argument for argument in arguments if type(argument) is int]
    fail_if(any(number not in steps for number in numbers), InvalidEdit)
    if word == "set_step":
        fail_if(arguments[1] not in letters, InvalidEdit)
        steps[arguments[0]][arguments[1]] = arguments[2]
    elif word == "set_start":
        start = arguments[0]
    elif word == "set_good":
        good = good | {arguments[0]} if arguments[1] else good - {arguments[0]}
    elif word == "add_state":
        fail_if(len(steps) >= 40, InvalidEdit)
        steps[len(steps)] = dict.fromkeys(letters, len(steps))
    elif word == "drop_state":
        fail_if(arguments[0] == start, InvalidEdit)
        del steps[arguments[0]]
    elif word == "add_letter":
        fail_if(letters == "abcd", InvalidEdit)
        for state in steps:
            steps[state]["abcd"[len(letters)]] = state
    else:
        fail_if(letters == "a", InvalidEdit)
        for state in steps:
            del steps[state][letters[-1]]
    names = sorted(steps)
    rows = [[names.index(there if there in steps else start) for there in steps[state].values()] for state in names]
    return (tuple(map(tuple, rows)), names.index(start), tuple(names.index(state) for state in names if state in good))
