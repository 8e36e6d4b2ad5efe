"""Libraries: registries whose releases also have functions, and the kinds that code has."""

from leastlinks.code import OWN, is_expression, is_function, plain_code
from leastlinks.errors import InvalidCode, InvalidFunctions, LostFunction, TooMany, UnknownFunction, UnknownRelease
from leastlinks.names import is_name
from leastlinks.registry import Registry
from leastlinks.sight import last_labels, named_version


def function_named(functions, name):
    """The function with this name, None if none of them has it."""
    for function in functions:
        if function[0] == name:
            return function
    return None


class Scope:
    """What code can name: the functions of what its release needs, those before it, and its own parameters."""

    def __init__(self, library, needs, functions, parameters):
        self._library = library
        self._needs = needs
        self._earlier = functions
        self._known = parameters

    def kind_of(self, expression):
        """The kind of an expression here, None if it has none."""
        word = expression[0]
        if word == "make":
            return OWN
        if word == "param":
            return self._known[expression[1]] if expression[1] < len(self._known) else None
        if word == "plus":
            return OWN if self.kind_of(expression[1]) == OWN else None
        if word == "call":
            return self._kind_of_call(expression)
        if word == "do":
            return None if self.kind_of(expression[1]) is None else self.kind_of(expression[2])
        return self._kind_of_choice(expression)

    def _kind_of_call(self, expression):
        """The result of the called function, if the arguments have the kinds of its parameters."""
        _, label, name, arguments = expression
        parameters, result = self._signature(label, name)
        if [self.kind_of(argument) for argument in arguments] != parameters:
            return None
        return result

    def _kind_of_choice(self, expression):
        """The kind of both results, if it is the same and the test is an own value."""
        _, test, one, other = expression
        kind = self.kind_of(one)
        return kind if self.kind_of(test) == OWN and self.kind_of(other) == kind else None

    def _signature(self, label, name):
        """The list of the parameters and the result of a function, as they count here; None twice if there is none."""
        function = function_named(self._functions_under(label), name)
        if function is None:
            return (None, None)
        # What a needed release calls its own is, for the one that needs it, what it sees under the need's label.
        own = OWN if label is None else label
        kinds = [own if kind == OWN else kind for kind in list(function[1]) + [function[2]]]
        return (kinds[:-1], kinds[-1])

    def _functions_under(self, label):
        """The functions that calls with this label, or with None, can name."""
        if label is None:
            return self._earlier
        version = named_version(self._needs, label)
        return [] if version is None else self._library.functions(label[0], version)


class Library(Registry):
    """Packages and releases as in a registry, and the functions of each release."""

    MOST_FUNCTIONS = 4

    def __init__(self):
        super().__init__()
        # From the tuple (package, version) to the tuple of the functions.
        self._functions = {}

    @classmethod
    def over(cls, registry):
        """A library with the packages, releases and needs of a registry, without functions."""
        library = cls()
        library._take_over(registry)
        library._functions = {release: () for release in registry.releases()}
        return library

    def registry(self):
        """A registry, no library, with the same packages, releases and needs."""
        registry = Registry()
        registry._take_over(self)
        return registry

    def clone(self):
        """An independent copy."""
        library = Library.over(self)
        library._functions = {release: self._functions[release] for release in self._functions}
        return library

    def publish(self, package, version, needs=(), functions=()):
        """Add a release with these needs, in any sequence, and these functions."""
        self._check_release(package, version, needs)
        self._check_functions(package, version, needs, functions)
        self._add_release(package, version, needs)
        self._functions[(package, tuple(version))] = tuple([plain_code(function) for function in functions])

    def functions(self, package, version):
        """The functions of this release, in sequence."""
        if not self.has_release(package, version):
            raise UnknownRelease(package, version)
        return list(self._functions[(package, version)])

    def signature(self, package, version, name):
        """The parameters and the result of a function of this release."""
        functions = self.functions(package, version)
        function = function_named(functions, name) if is_name(name) else None
        if function is None:
            raise UnknownFunction(name)
        return (function[1], function[2])

    def __eq__(self, other):
        if not isinstance(other, Library):
            return False
        return self._has_same(other) and self._functions == other._functions

    def __repr__(self):
        return f"Library({self._packages!r}, {len(self._needs)})"

    def _check_functions(self, package, version, needs, functions):
        """Raise what stands against these functions of a release that may have these needs."""
        if not isinstance(functions, (list, tuple)):
            raise InvalidFunctions("functions", None)
        if len(functions) > self.MOST_FUNCTIONS:
            raise TooMany("functions", self.MOST_FUNCTIONS)
        for position, function in enumerate(functions):
            problem = self._problem_of(function, functions[:position], needs)
            if problem is not None:
                raise InvalidFunctions(problem, position)
        before = self._last_of_label(package, version[0])
        past = () if before is None else self._functions[(package, before)]
        kept = [function[:3] for function in functions]
        for old in past:
            if old[:3] not in kept:
                raise LostFunction(old[0])

    def _problem_of(self, function, earlier, needs):
        """The word for what is wrong with a function behind these earlier ones, None if nothing is."""
        if not is_function(function):
            return "form"
        name, parameters, result, body = function
        if function_named(earlier, name) is not None:
            return "name"
        # Others can name what is shown to them alone.
        kinds = [OWN] + last_labels(self, [need for need in needs if need[2]])
        if not all([kind in kinds for kind in list(parameters) + [result]]):
            return "kinds"
        scope = Scope(self, needs, earlier, parameters)
        return None if scope.kind_of(body) == result else "body"


def kind_in(library, package, version, expression, *, parameters=()):
    """The kind of an expression behind all functions of a release, None if it has none. Raises as listed."""
    needs = library.needs(package, version)
    if not is_expression(expression):
        raise InvalidCode(expression)
    return Scope(library, needs, library.functions(package, version), parameters).kind_of(expression)


def main_kind(project, expression):
    """The kind of an expression as code of the main program, None if it has none. Raises InvalidCode."""
    if not is_expression(expression):
        raise InvalidCode(expression)
    return Scope(project.registry(), project.needs(), (), ()).kind_of(expression)
