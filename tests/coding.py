"""Drawn libraries and code, and what the document says of kinds and runs, by its words.

Like tests/drawing.py it shares nothing with the program but its interface. It evaluates by plain recursion, so it is not
for code with many calls.
"""

from leastlinks.errors import TooMany
from leastlinks.histories import save
from leastlinks.library import Library
from leastlinks.workspaces import Workspace
from tests.drawing import chains_of, crowded_registry, drawn_registry
from tests.support import everything

MAKE = ("make", 1)


class Enough(Exception):
    """More calls than one wants to see."""


def inner(expression):
    """The expressions directly in an expression."""
    return expression[3] if expression[0] == "call" else [part for part in expression[1:] if isinstance(part, tuple)]


def signatures(library, needs, earlier):
    """The parameters and results of what can be called: a dict from the tuples (label, name)."""
    found = {(None, name): (parameters, result) for name, parameters, result, _ in earlier}
    for package, version, *_ in needs:
        label = (package, version[0])
        for name, parameters, result, _ in library.functions(package, version):
            seen = [label if kind == "own" else kind for kind in (*parameters, result)]
            found[(label, name)] = (tuple(seen[:-1]), seen[-1])
    return found


def kind_by_the_words(known, parameters, expression):
    """The kind of an expression, None if it has none; known are the signatures of what can be called."""
    word = expression[0]
    if word == "make":
        return "own"
    if word == "param":
        return dict(enumerate(parameters)).get(expression[1])
    kinds = [kind_by_the_words(known, parameters, part) for part in inner(expression)]
    if word == "plus":
        return "own" if kinds == ["own"] else None
    if word == "call":
        wanted, result = known.get(expression[1:3], (None, None))
        return result if wanted == tuple(kinds) else None
    if word == "do":
        return kinds[1] if kinds[0] is not None else None
    return kinds[1] if kinds[0] == "own" and kinds[1] == kinds[2] else None


def run_by_the_words(linkage, expression, most=1000):
    """The value that the run returns, and its calls; Enough if there are more than so many."""
    library = linkage.project().registry()
    begun = []

    def evaluate(part, path, known):
        word = part[0]
        if word == "make":
            return (path, part[1])
        if word == "param":
            return known[part[1]]
        if word == "plus":
            return (path, evaluate(part[1], path, known)[1] + part[2])
        if word == "do":
            evaluate(part[1], path, known)
            return evaluate(part[2], path, known)
        if word == "if":
            return evaluate(part[3] if evaluate(part[1], path, known)[1] == 0 else part[2], path, known)
        _, label, name, arguments = part
        values = tuple([evaluate(argument, path, known) for argument in arguments])
        target = path if label is None else linkage.first_path(path + (label,))
        if len(begun) == most:
            raise Enough
        begun.append((target, name, values))
        body = {each[0]: each[3] for each in library.functions(*linkage.release(target))}[name]
        return evaluate(body, target, values)

    return evaluate(expression, (), ()), begun


def is_stray_by_the_words(linkage, call):
    """Whether some value of a call was not made by a copy that is meant."""
    path, name, values = call
    parameters, _ = linkage.project().registry().signature(*linkage.release(path), name)
    for kind, (maker, _) in zip(parameters, values, strict=True):
        meant = [path]
        if kind != "own":
            meant = [linkage.first_path(path + chain) for chain in chains_of(linkage, path) if chain[-1] == kind]
        if maker not in meant:
            return True
    return False


def drawn_expression(chance, known, parameters, kind, depth):
    """An expression of a kind that is nested at most so deep, None if the draw comes to nothing."""
    def parts(kinds):
        found = [drawn_expression(chance, known, parameters, each, depth - 1) for each in kinds]
        return None if None in found else found

    if depth <= 0:
        return None
    ways = [("param", at) for at, each in enumerate(parameters) if each == kind]
    ways += [("make", chance.randrange(3))] if kind == "own" else []
    ways += [("call", *called) for called in known if known[called][1] == kind] * 3
    ways += ["plus"] * (kind == "own") + ["do", "if"]
    way = chance.choice(ways)
    if way == "plus":
        found = parts(["own"])
        return found and ("plus", found[0], chance.randint(-2, 2))
    if way == "do":
        kinds = sorted({result for _, result in known.values()} | {"own"}, key=repr)
        found = parts([chance.choice(kinds), kind])
        return found and ("do", *found)
    if way == "if":
        found = parts(["own", kind, kind])
        return found and ("if", *found)
    if way[0] == "call":
        found = parts(known[way[1:]][0])
        return None if found is None else (*way, tuple(found))
    return way


def count_of(expression):
    """How many expressions are in an expression."""
    return 1 + sum(count_of(part) for part in inner(expression))


def drawn_code(chance, known, parameters, kind, tries=12):
    """An expression of a kind that is as large and as deep as code may be, None if no draw comes to one."""
    for _ in range(tries):
        expression = drawn_expression(chance, known, parameters, kind, chance.randint(1, 5))
        if expression is not None and count_of(expression) <= 30:
            return expression
    return None


def shown_kinds(library, needs):
    """The word own and the labels that a release with these needs shows."""
    kinds = {"own"}
    for package, version, is_shown in needs:
        if is_shown:
            kinds |= {(package, version[0])} | set(shown_kinds(library, library.needs(package, version)))
    return sorted(kinds, key=repr)


def drawn_functions(chance, library, needs, old):
    """Functions of a release with these needs that has to keep old ones."""
    functions = []
    for name, parameters, result, body in old:
        known = signatures(library, needs, functions)
        functions.append((name, parameters, result, drawn_code(chance, known, parameters, result, 2) or body))
    for name in chance.sample(["f", "g", "h", "own", "make"], 4 - len(functions)):
        if chance.random() < 0.7 and name not in [each[0] for each in functions]:
            kinds = shown_kinds(library, needs)
            parameters = tuple([chance.choice(kinds) for _ in range(chance.choice([0, 0, 1, 1, 2, 4]))])
            result = chance.choice(kinds)
            body = drawn_code(chance, signatures(library, needs, functions), parameters, result)
            if body is not None:
                functions.append((name, parameters, result, body))
    return functions


def drawn_library(chance, **settings):
    """A library over a drawn registry; each release has a few functions, all of them accepted."""
    registry = drawn_registry(chance, **settings)
    library = Library()
    for package in registry.packages():
        library.declare(package, sole=registry.is_sole(package))
        for version in registry.versions(package):
            needs = registry.needs(package, version)
            labelled = [each for each in library.versions(package) if each[0] == version[0]]
            old = library.functions(package, labelled[-1]) if labelled else []
            library.publish(package, version, needs, drawn_functions(chance, library, needs, old))
    return library


def drawn_main_code(chance, project):
    """Code of the main program of a project that has a kind."""
    known = signatures(project.registry(), project.needs(), [])
    kinds = sorted({result for _, result in known.values()} | {"own"}, key=repr)
    return drawn_code(chance, known, (), chance.choice(kinds)) or MAKE


def row_of(parts):
    """One expression that evaluates these, one behind the other, and returns what the last one does."""
    if len(parts) == 1:
        return parts[0]
    middle = len(parts) // 2
    return ("do", row_of(parts[:middle]), row_of(parts[middle:]))


def with_counters(library):
    """The library with one more package, whose functions make 1, 12, 110 and 997 calls in all, themselves included."""
    def times(count, name):
        return [("call", None, name, ())] * count

    library.declare("n")
    bodies = [("one", [MAKE]), ("dozen", times(11, "one")), ("many", times(9, "dozen") + times(1, "one")),
              ("most", times(9, "many") + times(6, "one"))]
    library.publish("n", (0, 0), [], [(name, (), "own", row_of(parts)) for name, parts in bodies])
    return library


def inks():
    """The library of the document's examples on runs."""
    library = Library()
    library.declare("ink")
    library.declare("pen")
    more = ("more", ("own",), "own", ("plus", ("param", 0), 1))
    library.publish("ink", (1, 0), [], [("drop", (), "own", ("make", 3)), more])
    fill = ("fill", (), ("ink", 1), ("call", ("ink", 1), "drop", ()))
    library.publish("pen", (1, 0), [("ink", (1, 0), True)], [fill])
    return library


def fonts_library():
    """The library of fonts and pages of the document's examples on workspaces, with functions."""
    library = Library()
    library.declare("font")
    library.declare("page")
    new = ("new", (), "own", ("make", 7))
    library.publish("font", (1, 0), [], [new])
    library.publish("font", (1, 1), [], [new, ("add", ("own",), "own", ("plus", ("param", 0), 1))])
    pick = ("pick", (), ("font", 1), ("call", ("font", 1), "new", ()))
    library.publish("page", (1, 0), [("font", (1, 0), True)], [pick])
    library.publish("page", (1, 1), [("font", (1, 1), True)], [pick])
    return library


def clashing_library():
    """A library in which a log is sole, and ears and eyes need it in two generations; a later ear is like an eye."""
    library = Library()
    library.declare("log", sole=True)
    library.publish("log", (1, 0))
    library.publish("log", (2, 0))
    library.declare("ear")
    library.publish("ear", (1, 0), [("log", (1, 0), False)])
    library.publish("ear", (1, 1), [("log", (1, 0), False), ("log", (2, 0), False)])
    library.declare("eye")
    library.publish("eye", (1, 0), [("log", (2, 0), False)])
    return library


def crowded_library():
    """A library over the crowded registry, in which fewer needs and locks can mean far more copies.

    Both x and y have more than 250 copies below them, and h and z 1.1 see those of both, which are the same therefore.
    """
    library = Library.over(crowded_registry())
    for package in ["x", "y"]:
        library.declare(package)
        library.publish(package, (1, 0), [("d", (0, 0), False)])
        library.publish(package, (1, 1), [("d", (0, 0), True)])
    library.declare("h")
    library.publish("h", (1, 0), [("x", (1, 1), True), ("y", (1, 1), True)])
    library.declare("z")
    library.publish("z", (1, 0), [("x", (1, 0), True), ("y", (1, 0), True)])
    library.publish("z", (1, 1), [("x", (1, 1), True), ("y", (1, 1), True)])
    return library


def whole(workspace):
    """All that a workspace tells, with the kind of each number, as texts."""
    resolution = workspace.resolution
    told = [repr(workspace), repr(workspace.project()), repr(workspace.step_limit), repr(workspace.edits()), repr(len(workspace))]
    return told + everything(workspace.library()) + [repr(resolution.rows()), repr(resolution.project()), save(workspace)]


def drawn_workspace(chance, edits=12):
    """A workspace after drawn edits, some of them refused and some of them undone."""
    workspace = Workspace(drawn_library(chance, releases=12))
    for _ in range(edits):
        try:
            drawn_edit(chance, workspace)
        except (LookupError, RuntimeError, TooMany):
            continue
    return workspace


def drawn_edit(chance, workspace):
    """Perform a drawn edit."""
    package, version = chance.choice(list(workspace.library().releases()) or [("a", (0, 0))])
    needs = workspace.project().needs()
    way = chance.choice(["need"] * 4 + ["raise", "raise", "drop", "lock", "lock", "unlock", "undo", "declare", "publish",
                                        "limit"])
    if way == "need":
        workspace.add_need(package, version)
    elif way == "raise":
        label = chance.choice([(name, named[0]) for name, named in needs] or [(package, version[0])])
        steps = [each for each in workspace.library().versions(label[0]) if each[0] == label[1]]
        workspace.raise_need(label[0], chance.choice(steps or [version]))
    elif way == "drop" and needs:
        package, version = chance.choice(needs)
        workspace.drop_need((package, version[0]))
    elif way == "declare":
        workspace.declare(chance.choice("mnop"), sole=chance.random() < 0.3)
    elif way == "publish":
        used, functions = workspace.library().needs(package, version), workspace.library().functions(package, version)
        workspace.publish(package, (version[0], version[1] + chance.randint(1, 2)), used[::-1], functions)
    elif way == "limit":
        workspace.step_limit = chance.randint(1, 10000)
    elif way == "undo":
        workspace.undo(chance.randint(1, 3))
    elif way in ("lock", "unlock"):
        workspace.lock() if way == "lock" else workspace.unlock()
