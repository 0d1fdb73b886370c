"""Benches: machines that are kept by name, and machines that are defined by others."""

from turnsandthrows.editing import with_good, with_letter, with_start, with_state, with_step
from turnsandthrows.editing import without_letter, without_state
from turnsandthrows.errors import CircularDefinition, DuplicateName, InvalidEdit, InvalidName
from turnsandthrows.errors import NameInUse, NotOwn, UnknownName
from turnsandthrows.formulas import is_small, read_formula
from turnsandthrows.least import complement, join
from turnsandthrows.machines import LETTERS
from turnsandthrows.telling import machine_of

LONGEST_NAME = 12


class Bench:
    """Names with machines of their own or with definitions, and the machines made of these.

    `entries` has the machine or the definition of each name, `kept` the machines that were made.
    An edit is a tuple of the name that it touches, and of the entries that the name has before
    and behind it, None for none; `done` has the edits that stand, `undone` those that can be
    done again, both with the next one at the end.
    """

    def __init__(self):
        self.made = 0
        self.entries = {}
        self.kept = {}
        self.done = []
        self.undone = []

    def add(self, name, machine):
        """Let the bench have the name with that machine of its own."""
        check_name(name)
        if name in self.entries:
            raise DuplicateName(f"the bench has {name}")
        self.edit(name, machine)

    def define(self, name, definition):
        """Let the bench have the name with that definition."""
        check_name(name)
        if name in self.entries and not is_definition(self.entries[name]):
            raise DuplicateName(f"{name} has a machine of its own")
        if definition[0] == "formula":
            check_formula(definition)
        for other in spoken_of(definition):
            self.check_known(other)
        if name in reached_from(spoken_of(definition), lambda each: self.spoken_by(each)):
            raise CircularDefinition(f"{name} would hang on itself")
        self.edit(name, definition)

    def remove(self, name):
        """Let the bench have the name no more."""
        if len(self.users(name)) > 0:
            raise NameInUse(f"a definition speaks of {name}")
        self.edit(name, None)

    def names(self):
        """Return the list of the names, ascending."""
        return sorted(self.entries)

    def entry(self, name):
        """Return the machine of its own or the definition of the name."""
        self.check_known(name)
        return self.entries[name]

    def users(self, name):
        """Return the list of the names whose definitions speak of the name, ascending."""
        self.check_known(name)
        return self.speakers(name)

    def order(self):
        """Return the list of all names, each behind those on which it hangs, the least first."""
        placed = []
        left = self.names()
        while len(left) > 0:
            free = [name for name in left if all([other in placed for other in self.spoken_by(name)])]
            placed.append(free[0])
            left.remove(free[0])
        return placed

    def undo(self):
        """Undo the last edit that stands; return False if there is none, otherwise True."""
        if len(self.done) == 0:
            return False
        edit = self.done.pop()
        self.undone.append(edit)
        self.put(edit[0], edit[1])
        return True

    def redo(self):
        """Do the edit again that was undone last; return False if there is none, otherwise True."""
        if len(self.undone) == 0:
            return False
        edit = self.undone.pop()
        self.done.append(edit)
        self.put(edit[0], edit[2])
        return True

    def set_step(self, name, state, letter, target):
        """Let the step of the state for the letter be the target."""
        self.edit(name, with_step(self.own(name), state, letter, target))

    def set_start(self, name, state):
        """Let the start be the state."""
        self.edit(name, with_start(self.own(name), state))

    def set_good(self, name, state, good):
        """Let the state be good if `good` is True, otherwise not."""
        self.edit(name, with_good(self.own(name), state, good))

    def add_state(self, name):
        """Let the machine have one state more, whose steps lead to itself; return its number."""
        machine = self.own(name)
        self.edit(name, with_state(machine))
        return len(machine[0])

    def drop_state(self, name, state):
        """Let the machine not have the state any more; what led to it leads to the start."""
        self.edit(name, without_state(self.own(name), state))

    def add_letter(self, name):
        """Let the machine have the next letter, too, which leads each state to itself."""
        self.edit(name, with_letter(self.own(name)))

    def drop_letter(self, name):
        """Let the machine not have its last letter any more."""
        self.edit(name, without_letter(self.own(name)))

    def needed(self, name):
        """Return the machine of the name; make and keep the machines that it takes."""
        entry = self.entry(name)
        if not is_definition(entry):
            return entry
        if name not in self.kept:
            machines = [self.needed(other) for other in spoken_of(entry)]
            # A making counts also if it raises an error.
            self.made += 1
            self.kept[name] = made_from(entry, machines)
        return self.kept[name]

    def forget(self):
        """Let there be nothing to undo or to do again."""
        self.done = []
        self.undone = []

    def check_known(self, name):
        """Raise UnknownName if the bench does not have the name."""
        if name not in self.entries:
            raise UnknownName(f"the bench does not have {name}")

    def own(self, name):
        """Return the machine of its own of the name."""
        entry = self.entry(name)
        if is_definition(entry):
            raise NotOwn(f"{name} has a definition")
        return entry

    def spoken_by(self, name):
        """Return the list of the names of which the definition of the name speaks, if it has one."""
        entry = self.entries[name]
        return spoken_of(entry) if is_definition(entry) else []

    def speakers(self, name):
        """Return the list of the names whose definitions speak of the name, ascending."""
        return [other for other in self.names() if name in self.spoken_by(other)]

    def edit(self, name, entry):
        """Let the name have the entry, as an edit."""
        self.done.append((name, self.entries.get(name), entry))
        self.undone = []
        self.put(name, entry)

    def put(self, name, entry):
        """Let the name have the entry, or be gone if it is None; drop what was made of it."""
        for other in reached_from([name], lambda each: self.speakers(each)):
            self.kept.pop(other, None)
        if entry is None:
            self.entries.pop(name)
        else:
            self.entries[name] = entry


def check_name(text):
    """Raise InvalidName if the text is not a name."""
    if not 1 <= len(text) <= LONGEST_NAME or not all([is_small(sign) for sign in text]):
        raise InvalidName(f"{text!r} is not a name")


def check_formula(definition):
    """Raise the error that the definition by a formula has, if any."""
    read_formula(definition[1])
    if not 1 <= definition[2] <= len(LETTERS):
        raise InvalidEdit(f"the number of letters is not 1 to {len(LETTERS)}")


def is_definition(entry):
    """Return True if the entry is a definition, False if it is a machine."""
    return isinstance(entry[0], str)


def spoken_of(definition):
    """Return the list of the names of which the definition speaks, from the left to the right."""
    return [] if definition[0] == "formula" else list(definition[1:])


def made_from(definition, machines):
    """Return the machine that is defined so by these machines."""
    if definition[0] == "formula":
        return machine_of(read_formula(definition[1]), definition[2])
    if definition[0] == "not":
        return complement(machines[0])
    return join(machines[0], machines[1], definition[0])


def reached_from(origins, following):
    """Return the list of the origins, and of all that follow on one that is in the list."""
    found = list(origins)
    at = 0
    while at < len(found):
        here = found[at]
        for there in following(here):
            if there not in found:
                found.append(there)
        at += 1
    return found
