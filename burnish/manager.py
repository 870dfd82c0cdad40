"""The manager: passes by their words, scripts of passes, and sessions."""

from burnish.arguments import arguments, drop, merge
from burnish.check import check
from burnish.combine import combine
from burnish.constants import constants
from burnish.deadcode import deadcode
from burnish.errors import ScriptError, UnknownFunction, UnknownPass
from burnish.inline import inline, tails
from burnish.invariants import hoist, unswitch
from burnish.numbering import numbering
from burnish.objects import globals_pass, split
from burnish.plainloops import close, plain, rotate
from burnish.promote import drop_kills, promote
from burnish.records import find_function
from burnish.scan import scan
from burnish.sinking import sinking
from burnish.stores import dead_stores, forward_loads
from burnish.strength import strength
from burnish.thread import thread
from burnish.tidy import tidy
from burnish.unroll import peel, unroll

PASSES = (
    "arguments", "close", "combine", "constants", "dead_stores", "deadcode", "drop", "drop_kills", "forward_loads",
    "globals_pass", "hoist", "inline", "merge", "numbering", "peel", "plain", "promote", "rotate", "sinking", "split",
    "strength", "tails", "thread", "tidy", "unroll", "unswitch",
)

_ACTIONS = {
    "arguments": arguments, "close": close, "combine": combine, "constants": constants, "dead_stores": dead_stores,
    "deadcode": deadcode, "drop": drop, "drop_kills": drop_kills, "forward_loads": forward_loads,
    "globals_pass": globals_pass, "hoist": hoist, "inline": inline, "merge": merge, "numbering": numbering,
    "peel": peel, "plain": plain, "promote": promote, "rotate": rotate, "sinking": sinking, "split": split,
    "strength": strength, "tails": tails, "thread": thread, "tidy": tidy, "unroll": unroll, "unswitch": unswitch,
}

_WHOLE = ("arguments", "drop", "globals_pass", "merge")

# The bounds of scripts.
_AMOUNT = 10000
_TIMES = 100
_DEEPEST = 8
_LONGEST = 20


def whole_module(word):
    """Tell whether a pass takes "" as its name."""
    return word in _WHOLE


def run_pass(module, word, name, amount):
    """Return the certificate of a pass; the amount -1 stands for the default of the pass."""
    if word not in _ACTIONS:
        raise UnknownPass(word)
    exists = name == "" if whole_module(word) else find_function(module, name) is not None
    if not exists:
        raise UnknownFunction(name)
    action = _ACTIONS[word]
    if amount == -1:
        return action(module, name)
    return action(module, name, amount=amount)


def _show_item(item):
    """Return the text of an item of a script."""
    if item[0] == "pass":
        return item[1] if item[2] == -1 else f"{item[1]} {item[2]}"
    return f"{item[0]} {item[1]} " + "{" + show_script(item[2]) + "}"


def show_script(script):
    """Return the text of a script."""
    return "; ".join([_show_item(item) for item in script])


class ScriptReader:
    """Reads the tokens of a script from the beginning on."""

    def __init__(self, text):
        self.tokens = scan(text)
        self.tokens.append(("", len(text)))
        self.place = 0

    def next_token(self):
        """Return the next token, "" behind the last one."""
        return self.tokens[self.place][0]

    def refuse(self):
        """Raise the error for the next token."""
        raise ScriptError(self.tokens[self.place][1])

    def take_sign(self, token):
        """Pass the next token, which must be this one."""
        if self.next_token() != token:
            self.refuse()
        self.place += 1

    def take_number(self, least, most):
        """Return the next token as a number in the bounds."""
        word = self.next_token()
        if not _is_number(word) or not least <= int(word) <= most:
            self.refuse()
        self.place += 1
        return int(word)

    def take_name(self):
        """Return the next token as the name of a function."""
        word = self.next_token()
        if not "a" <= word[:1] <= "z" or len(word) > _LONGEST:
            self.refuse()
        self.place += 1
        return word

    def take_item(self, depth):
        """Return the next item; so many items are around it."""
        word = self.next_token()
        if word in ("until", "on") and depth < _DEEPEST:
            self.place += 1
            told = self.take_number(1, _TIMES) if word == "until" else self.take_name()
            self.take_sign("{")
            inner = self.take_items(depth + 1)
            self.take_sign("}")
            return (word, told, inner)
        if word not in PASSES:
            self.refuse()
        self.place += 1
        if self.next_token() in ("", ";", "}"):
            return ("pass", word, -1)
        return ("pass", word, self.take_number(0, _AMOUNT))

    def take_items(self, depth):
        """Return the tuple of the items that follow, at least one."""
        found = [self.take_item(depth)]
        while self.next_token() == ";":
            self.place += 1
            found.append(self.take_item(depth))
        return tuple(found)


def _is_number(word):
    """Tell whether a word is a number without leading zeros, and not too long to be of use."""
    if word == "" or len(word) > 9 or not all([sign in "0123456789" for sign in word]):
        return False
    return word == "0" or word[0] != "0"


def read_script(text):
    """Return the script of a text."""
    reader = ScriptReader(text)
    if reader.next_token() == "":
        return ()
    script = reader.take_items(0)
    reader.take_sign("")
    return script


class Runner:
    """Runs passes one after the other."""

    def __init__(self, module):
        self.whole = module
        self.entries = []

    def run_once(self, word, name, amount):
        """Run a pass; tell whether its certificate has a step."""
        certificate = run_pass(self.whole, word, name, amount)
        self.whole = check(self.whole, certificate)[0]
        self.entries.append((word, name, certificate))
        return certificate != ()

    def run_item(self, word, amount, owner):
        """Run a pass on its functions, all or the owner; tell whether there was a step."""
        if whole_module(word):
            return self.run_once(word, "", amount)
        names = [function[0] for function in self.whole[1]] if owner == "" else [owner]
        done = False
        for name in names:
            if find_function(self.whole, name) is not None and self.run_once(word, name, amount):
                done = True
        return done

    def run_items(self, script, owner):
        """Run the items of a script on all functions, or on the owner; tell whether there was a step."""
        done = False
        for item in script:
            if item[0] == "pass":
                again = self.run_item(item[1], item[2], owner)
            elif item[0] == "on":
                again = self.run_items(item[2], item[1])
            else:
                again = self.run_until(item[1], item[2], owner)
            done = done or again
        return done

    def run_until(self, times, script, owner):
        """Run items again and again until there is no step; tell whether there was one."""
        done = False
        for _ in range(times):
            if not self.run_items(script, owner):
                break
            done = True
        return done


def run_script(module, script):
    """Return (module, entries): the last module, and (word, name, certificate) of each pass that was run."""
    runner = Runner(module)
    runner.run_items(script, "")
    return (runner.whole, runner.entries)


def join(entries):
    """Return the certificates of entries as one."""
    return tuple([step for _, _, certificate in entries for step in certificate])


def optimize(module, passes):
    """Return (module, entries) for a list of passes (word, name, amount)."""
    runner = Runner(module)
    for word, name, amount in passes:
        runner.run_once(word, name, amount)
    return (runner.whole, runner.entries)


class Session:
    """A module, and the runs of passes that led to it."""

    def __init__(self, module):
        self._modules = [module]
        self._certificates = []

    @property
    def module(self):
        """The module as it is."""
        return self._modules[-1]

    @property
    def certificate(self):
        """The joined certificate of the runs."""
        return tuple([step for steps in self._certificates for step in steps])

    def run(self, word, name, *, amount=-1):
        """Run a pass and return the number of its steps."""
        certificate = run_pass(self._modules[-1], word, name, amount)
        self._modules.append(check(self._modules[-1], certificate)[0])
        self._certificates.append(certificate)
        return len(certificate)

    def undo(self):
        """Go back to the state before the last run; return False if there is none."""
        if not self._certificates:
            return False
        self._modules.pop()
        self._certificates.pop()
        return True

    def count(self):
        """Return the number of the runs that were not undone."""
        return len(self._certificates)
