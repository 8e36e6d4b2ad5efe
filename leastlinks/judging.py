"""Judging: whether each row of a derivation follows by its rule from the rows that it names."""

from leastlinks.errors import InvalidDerivation
from leastlinks.facts import is_fact_in
from leastlinks.names import is_count
from leastlinks.sight import is_led_by, named_version

RULES = ("main", "need", "less", "lock", "sight", "sole", "below", "transfer", "turn", "join", "absurd")
# For each rule the words of its facts, those of the premises first; two rules have a line for each number of premises.
SHAPES = {
    "main": (("atleast",),),
    "need": (("atleast", "atleast"),),
    "less": (("atleast", "atleast"),),
    "lock": (("atleast", "atleast"),),
    "sight": (("same",), ("atleast", "same")),
    "sole": (("atleast", "atleast", "same"),),
    "below": (("same", "atleast", "same"),),
    "transfer": (("same", "atleast", "atleast"),),
    "turn": (("same", "same"),),
    "join": (("same", "same", "same"),),
    "absurd": (("same", "absurd"),),
}


class Ground:
    """What the rules ask of a project."""

    def __init__(self, project):
        self.known = project.registry()
        self.wanted = project.needs()
        self.locked = project.locks()


def needs_at(ground, premise):
    """The needs of the release that a fact of the form atleast names."""
    _, path, version = premise
    return ground.known.needs(path[-1][0], version)


def follows_main(ground, premises, fact):
    """Whether the main program has the need."""
    _, path, version = fact
    return len(path) == 1 and named_version(ground.wanted, path[0]) == version


def follows_need(ground, premises, fact):
    """Whether the release of the premise has the need."""
    _, path, version = fact
    if path[:-1] != premises[0][1]:
        return False
    return named_version(needs_at(ground, premises[0]), path[-1]) == version


def follows_less(ground, premises, fact):
    """Whether the path is the same and the step smaller."""
    return fact[1] == premises[0][1] and fact[2][1] < premises[0][2][1]


def follows_lock(ground, premises, fact):
    """Whether the path is the same and locked at this version."""
    return fact[1] == premises[0][1] and (fact[1], fact[2]) in ground.locked


def follows_sight(ground, premises, fact):
    """Whether the main program, or the release of the premise, sees both chains, which end alike."""
    _, one, other = fact
    base = premises[0][1] if len(premises) > 0 else ()
    needs = needs_at(ground, premises[0]) if len(premises) > 0 else ground.wanted
    if one[:len(base)] != base or other[:len(base)] != base or one[-1] != other[-1]:
        return False
    return all([is_led_by(ground.known, needs, path[len(base):]) for path in (one, other)])


def follows_sole(ground, premises, fact):
    """Whether both paths are those of the premises and lead to one package, which is sole."""
    _, one, other = fact
    if [one, other] != [premises[0][1], premises[1][1]]:
        return False
    return one[-1][0] == other[-1][0] and ground.known.is_sole(one[-1][0])


def follows_below(ground, premises, fact):
    """Whether both paths of the first premise go on by the last label of the second one."""
    _, one, other = premises[0]
    path = premises[1][1]
    return path[:-1] == one and fact[1] == path and fact[2] == other + path[-1:]


def follows_transfer(ground, premises, fact):
    """Whether what is known at the first path is said of the second one, which ends alike."""
    _, one, other = premises[0]
    _, path, version = premises[1]
    return path == one and one[-1] == other[-1] and fact[1] == other and fact[2] == version


def follows_turn(ground, premises, fact):
    """Whether the paths have changed their places."""
    return fact[1] == premises[0][2] and fact[2] == premises[0][1]


def follows_join(ground, premises, fact):
    """Whether the premises lead from the one path to the other one."""
    return premises[0][2] == premises[1][1] and fact[1] == premises[0][1] and fact[2] == premises[1][2]


def follows_absurd(ground, premises, fact):
    """Whether the paths of the premise end differently."""
    return premises[0][1][-1] != premises[0][2][-1]


CONDITIONS = {
    "main": follows_main,
    "need": follows_need,
    "less": follows_less,
    "lock": follows_lock,
    "sight": follows_sight,
    "sole": follows_sole,
    "below": follows_below,
    "transfer": follows_transfer,
    "turn": follows_turn,
    "join": follows_join,
    "absurd": follows_absurd,
}


def is_derivation(project, value):
    """Whether this is a derivation of the project."""
    return isinstance(value, list) and len(value) > 0 and first_wrong(project, value) is None


def first_wrong(project, rows):
    """The position of the first element that is not a row, None if there is none. Raises InvalidDerivation."""
    if not isinstance(rows, list):
        raise InvalidDerivation(rows)
    ground = Ground(project)
    for position, row in enumerate(rows):
        if not has_form(ground, row, position) or not follows(ground, rows, row):
            return position
    return None


def needed_rows(project, rows):
    """The derivation of the last row alone, from the rows on which it rests. Raises InvalidDerivation."""
    if not is_derivation(project, rows):
        raise InvalidDerivation(rows)
    return rows_under_last(rows)


def rows_under_last(rows):
    """The last one of these right rows and all on which it rests, numbered anew."""
    needed = {len(rows) - 1: True}
    # The premises of a row stand before it, so all rows that rest on one are met before it.
    for position in reversed(range(len(rows))):
        if position in needed:
            for premise in rows[position][2]:
                needed[premise] = True
    kept = sorted(list(needed))
    places = {position: place for place, position in enumerate(kept)}
    result = []
    for position in kept:
        fact, rule, premises = rows[position]
        result.append((fact, rule, tuple([places[premise] for premise in premises])))
    return result


def has_form(ground, row, position):
    """Whether this is a tuple of a fact, a rule, and the numbers of rows before this position."""
    if not isinstance(row, tuple) or len(row) != 3:
        return False
    fact, rule, premises = row
    if not is_fact_in(ground.known, fact) or not isinstance(rule, str) or rule not in RULES:
        return False
    return isinstance(premises, tuple) and all([is_count(premise) and premise < position for premise in premises])


def follows(ground, rows, row):
    """Whether a row that has the form follows by its rule from the rows that it names."""
    fact, rule, numbers = row
    premises = [rows[number][0] for number in numbers]
    if tuple([known[0] for known in premises + [fact]]) not in SHAPES[rule]:
        return False
    condition = CONDITIONS[rule]
    return condition(ground, premises, fact)
