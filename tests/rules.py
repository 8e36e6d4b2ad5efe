"""The table of rules by its words: all facts that follow by a rule from facts, and all that can be derived."""

from leastlinks.facts import is_fact
from leastlinks.sight import seen_chains
from tests.drawing import main_chains

WORDS = ("main", "need", "less", "lock", "sight", "sole", "below", "transfer", "turn", "join", "absurd")
COUNTS = {"main": [0], "need": [1], "less": [1], "lock": [1], "sight": [0, 1], "sole": [2], "below": [2], "transfer": [2],
          "turn": [1], "join": [2], "absurd": [1]}


def pairs_with_one_end(chains):
    """All pairs of chains that have the same last label."""
    return [(one, other) for one in chains for other in chains if one[-1] == other[-1]]


def from_nothing(project, rule):
    """The facts that follow without a premise."""
    if rule == "main":
        return [("atleast", ((package, version[0]),), version) for package, version in project.needs()]
    if rule == "sight":
        return [("same", one, other) for one, other in pairs_with_one_end(main_chains(project))]
    return []


def from_one(project, rule, premise):
    """The facts that follow from one premise."""
    registry = project.registry()
    if premise[0] == "atleast":
        _, path, version = premise
        package = path[-1][0]
        if rule == "need":
            return [("atleast", path + ((used, named[0]),), named) for used, named, _ in registry.needs(package, version)]
        if rule == "less":
            smaller = [each for each in registry.versions(package) if each[0] == version[0] and each[1] < version[1]]
            return [("atleast", path, each) for each in smaller]
        if rule == "lock":
            return [("atleast", path, named) for locked, named in project.locks() if locked == path]
        if rule == "sight":
            pairs = pairs_with_one_end(list(seen_chains(registry, package, version)))
            return [("same", path + one, path + other) for one, other in pairs]
    if premise[0] == "same":
        _, one, other = premise
        if rule == "turn":
            return [("same", other, one)]
        if rule == "absurd" and one[-1] != other[-1]:
            return [("absurd",)]
    return []


def from_two(project, rule, first, second):
    """The facts that follow from two premises."""
    words = (first[0], second[0])
    if rule == "sole" and words == ("atleast", "atleast"):
        package = first[1][-1][0]
        if package == second[1][-1][0] and project.registry().is_sole(package):
            return [("same", first[1], second[1])]
    if rule == "below" and words == ("same", "atleast") and second[1][:-1] == first[1]:
        return [("same", second[1], first[2] + (second[1][-1],))]
    if rule == "transfer" and words == ("same", "atleast") and first[1] == second[1] and first[1][-1] == first[2][-1]:
        return [("atleast", first[2], second[2])]
    if rule == "join" and words == ("same", "same") and first[2] == second[1]:
        return [("same", first[1], second[2])]
    return []


def consequences(project, rule, premises):
    """All facts that follow by the rule from these facts."""
    if len(premises) == 0:
        facts = from_nothing(project, rule)
    elif len(premises) == 1:
        facts = from_one(project, rule, premises[0])
    elif len(premises) == 2:
        facts = from_two(project, rule, premises[0], premises[1])
    else:
        facts = []
    return [fact for fact in facts if is_fact(project, fact)]


def all_derived(project):
    """All facts that can be derived, each with a row, in a sequence in which the premises come first."""
    rows = {}

    def take(rule, numbers):
        known = list(rows)
        for fact in consequences(project, rule, [known[number] for number in numbers]):
            if fact not in rows:
                rows[fact] = (fact, rule, tuple(numbers))

    take("main", [])
    take("sight", [])
    at = 0
    while at < len(rows):
        for rule in WORDS:
            if 1 in COUNTS[rule]:
                take(rule, [at])
            if 2 in COUNTS[rule]:
                for other in range(at + 1):
                    take(rule, [at, other])
                    take(rule, [other, at])
        at += 1
    return list(rows.values())
