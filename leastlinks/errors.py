"""The errors of the package, each with what it tells as attributes."""


class LinkError(ValueError):
    """A value does not have the form that is required."""


class InvalidName(LinkError):
    """This value is not a name."""

    def __init__(self, value):
        self.value = value


class InvalidVersion(LinkError):
    """This value is not a version."""

    def __init__(self, value):
        self.value = value


class InvalidPath(LinkError):
    """This value is not a path."""

    def __init__(self, value):
        self.value = value


class InvalidFlag(LinkError):
    """This value is not a bool."""

    def __init__(self, value):
        self.value = value


class InvalidNeeds(LinkError):
    """The element at this position is not a need, or has an earlier label; None for all of it."""

    def __init__(self, position):
        self.position = position


class InvalidLocks(LinkError):
    """The element at this position is not a lock, or has an earlier path; None for all of it."""

    def __init__(self, position):
        self.position = position


class InvalidLinkage(LinkError):
    """This row makes no linkage, for the problem that one word names; None for all rows."""

    def __init__(self, problem, row):
        self.problem = problem
        self.row = row


class InvalidFact(LinkError):
    """This value is not a fact of the project."""

    def __init__(self, value):
        self.value = value


class InvalidDerivation(LinkError):
    """This value is not a derivation."""

    def __init__(self, value):
        self.value = value


class InvalidFunctions(LinkError):
    """The function at this position has the problem that one word names; None for all."""

    def __init__(self, problem, position):
        self.problem = problem
        self.position = position


class InvalidCode(LinkError):
    """This value is not code that may stand here."""

    def __init__(self, value):
        self.value = value


class InvalidCount(LinkError):
    """This value is not a number that may stand here."""

    def __init__(self, value):
        self.value = value


class InvalidText(LinkError):
    """No text begins with the lines up to this one; 0 for a value that is not a string."""

    def __init__(self, line):
        self.line = line


class InvalidEdit(LinkError):
    """This value is not an edit."""

    def __init__(self, value):
        self.value = value


class InvalidCommand(LinkError):
    """This value is not a command."""

    def __init__(self, value):
        self.value = value


class UnknownPackage(LookupError):
    """The registry has no such package."""

    def __init__(self, value):
        self.value = value


class UnknownRelease(LookupError):
    """The registry has no such release."""

    def __init__(self, package, version):
        self.package = package
        self.version = version


class UnknownPath(LookupError):
    """The linkage has no such path."""

    def __init__(self, value):
        self.value = value


class UnknownFunction(LookupError):
    """The release has no such function."""

    def __init__(self, value):
        self.value = value


class NoNeed(LookupError):
    """The main program has no need with this label."""

    def __init__(self, label):
        self.label = label


class NameTaken(RuntimeError):
    """There is a package with this name."""

    def __init__(self, value):
        self.value = value


class LabelTaken(RuntimeError):
    """The main program has a need with this label."""

    def __init__(self, label):
        self.label = label


class NotEarlier(RuntimeError):
    """The used package was not declared before its user."""

    def __init__(self, user, used):
        self.user = user
        self.used = used


class NotRising(RuntimeError):
    """There is this step, or a greater one, already."""

    def __init__(self, package, version):
        self.package = package
        self.version = version


class NotGrowing(RuntimeError):
    """The need with this label, of the release before, is not kept."""

    def __init__(self, label):
        self.label = label


class LostFunction(RuntimeError):
    """The function with this name, of the release before, is not kept."""

    def __init__(self, name):
        self.name = name


class Clash(RuntimeError):
    """This sole package is needed in two generations."""

    def __init__(self, package):
        self.package = package


class NotCopies(RuntimeError):
    """These paths do not lead to one copy."""

    def __init__(self, path, other):
        self.path = path
        self.other = other


class NothingToUndo(RuntimeError):
    """There are fewer edits to undo."""

    def __init__(self):
        pass


class TooMany(ArithmeticError):
    """There would be more of this kind than the limit."""

    def __init__(self, kind, limit):
        self.kind = kind
        self.limit = limit


class TooManySteps(ArithmeticError):
    """The run has more calls than the limit."""

    def __init__(self, limit):
        self.limit = limit
