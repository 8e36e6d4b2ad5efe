"""Running: what an expression of the main program returns in a linkage, and which calls begin on the way."""

from leastlinks.code import OWN, is_expression
from leastlinks.errors import InvalidCode, InvalidCount, TooManySteps
from leastlinks.library import Library, main_kind
from leastlinks.names import is_count


def run(linkage, expression, *, limit=1000):
    """The value that the run returns. Raises InvalidCode, InvalidCount and TooManySteps."""
    machine = started(linkage, expression, limit)
    while machine.next_call() is not None:
        pass
    return machine.outcome()


def calls(linkage, expression, *, limit=1000):
    """Yield the calls of the run in the sequence in which they begin. Raises as run, when it comes to it."""
    machine = started(linkage, expression, limit)
    call = machine.next_call()
    while call is not None:
        yield call
        call = machine.next_call()


def stray_calls(linkage, expression, *, limit=1000):
    """The stray calls of the run, in this sequence. Raises as run."""
    machine = started(linkage, expression, limit)
    strays = []
    call = machine.next_call()
    while call is not None:
        if machine.is_stray(call):
            strays.append(call)
        call = machine.next_call()
    return strays


def started(linkage, expression, limit):
    """A run that has only just begun. Raises InvalidCode and InvalidCount."""
    if not is_main_code(linkage.project(), expression):
        raise InvalidCode(expression)
    if not is_count(limit):
        raise InvalidCount(limit)
    return Machine(linkage, expression, limit)


def is_main_code(project, value):
    """Whether this is code of the main program that has a kind; none has one where there is no library."""
    if not isinstance(project.registry(), Library) or not is_expression(value):
        return False
    return main_kind(project, value) is not None


class Machine:
    """A run that stops at each call, because there can be far more calls than anyone waits for.

    What is still to be done is a list of tuples (is_second, expression, path, known), the next one last: an expression
    that is to be evaluated for the copy at the path with the known values of its parameters, for the first time, or
    for the second time, when the parts are evaluated with which it begins. The values of these stand in another list.
    """

    def __init__(self, linkage, expression, limit):
        self._linkage = linkage
        self._limit = limit
        self._begun = 0
        self._waiting = [(False, expression, (), ())]
        self._found = []
        # From each first path to the links, to the functions by their names, and, where asked, to what is seen there.
        self._links = {path: linkage.links(path) for path in linkage.copies()}
        library = linkage.project().registry()
        self._bodies = {path: functions_of(library, linkage.release(path)) for path in linkage.copies()}
        self._seen = {}

    def next_call(self):
        """Go on until a call begins, and tell it; None when the run has ended. Raises TooManySteps."""
        while len(self._waiting) > 0:
            is_second, expression, path, known = self._waiting.pop()
            if not is_second:
                self._evaluate(expression, path, known)
            elif expression[0] == "call":
                return self._begin(expression, path)
            else:
                self._go_on(expression, path, known)
        return None

    def outcome(self):
        """The value that the run has returned."""
        return self._found[-1]

    def is_stray(self, call):
        """Whether some value of a call was not made by a copy that is meant."""
        path, name, values = call
        kinds = self._bodies[path][name][1]
        return any([value[0] not in self._makers(path, kind) for kind, value in zip(kinds, values)])

    def _makers(self, path, kind):
        """The first paths of the copies that a kind means in the code of the copy at this path."""
        if kind == OWN:
            return [path]
        if path not in self._seen:
            self._seen[path] = self._linkage.seen(path)
        return self._seen[path][kind]

    def _evaluate(self, expression, path, known):
        """Evaluate an expression, or wait for the parts with which it begins."""
        word = expression[0]
        if word == "make":
            self._found.append((path, expression[1]))
        elif word == "param":
            self._found.append(known[expression[1]])
        else:
            self._waiting.append((True, expression, path, known))
            parts = expression[3] if word == "call" else expression[1:2]
            for part in reversed(parts):
                self._waiting.append((False, part, path, known))

    def _go_on(self, expression, path, known):
        """Go on with an expression, no call, whose first part is evaluated."""
        _, number = self._found.pop()
        word = expression[0]
        if word == "plus":
            self._found.append((path, number + expression[2]))
            return
        chosen = expression[3] if word == "if" and number == 0 else expression[2]
        self._waiting.append((False, chosen, path, known))

    def _begin(self, expression, path):
        """Begin the call of an expression whose arguments are evaluated, and tell it. Raises TooManySteps."""
        if self._begun == self._limit:
            raise TooManySteps(self._limit)
        self._begun += 1
        _, label, name, arguments = expression
        target = path if label is None else self._links[path][label]
        # Nothing is taken off for no arguments.
        first = len(self._found) - len(arguments)
        values = tuple(self._found[first:])
        del self._found[first:]
        self._waiting.append((False, self._bodies[target][name][3], target, values))
        return (target, name, values)


def functions_of(library, release):
    """From the names of the functions of a release, None for the main program, to these functions."""
    if release is None:
        return {}
    return {function[0]: function for function in library.functions(release[0], release[1])}
