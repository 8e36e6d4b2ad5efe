"""Edits as tuples, performed one behind the other: all of them, or none."""

from leastlinks.errors import InvalidEdit


def declared(workspace, package, sole):
    """Perform an edit declare."""
    return workspace.declare(package, sole=sole)


def published(workspace, package, version, needs, functions):
    """Perform an edit publish."""
    return workspace.publish(package, version, needs, functions)


def needed(workspace, package, version):
    """Perform an edit need."""
    return workspace.add_need(package, version)


def raised(workspace, package, version):
    """Perform an edit raise."""
    return workspace.raise_need(package, version)


def dropped(workspace, label):
    """Perform an edit drop."""
    return workspace.drop_need(label)


def locked(workspace):
    """Perform an edit lock."""
    return workspace.lock()


def unlocked(workspace):
    """Perform an edit unlock."""
    return workspace.unlock()


def undone(workspace, count):
    """Perform an edit undo."""
    return workspace.undo(count)


def limited(workspace, count):
    """Perform an edit limit, which has no result."""
    workspace.step_limit = count


ACTIONS = {
    "declare": declared,
    "publish": published,
    "need": needed,
    "raise": raised,
    "drop": dropped,
    "lock": locked,
    "unlock": unlocked,
    "undo": undone,
    "limit": limited,
}
# How many parts an edit has behind its word.
PARTS = {"declare": 2, "publish": 4, "need": 2, "raise": 2, "drop": 1, "lock": 0, "unlock": 0, "undo": 1, "limit": 1}


def perform(workspace, *edits):
    """Perform the edits in sequence, and return their results. Raises InvalidEdit, and as the first refused edit."""
    trial = workspace.clone()
    results = results_of(trial, edits)
    workspace.become(trial)
    return results


def tried(workspace, *edits):
    """Return or raise what perform does, and leave the workspace as it is."""
    return results_of(workspace.clone(), edits)


def results_of(workspace, edits):
    """Perform edits on a workspace that is of no use if one of them is refused, and return their results."""
    for edit in edits:
        if not is_edit(edit):
            raise InvalidEdit(edit)
    return [performed(workspace, edit) for edit in edits]


def is_edit(value):
    """Whether this is a tuple of a word and of as many parts as belong to it."""
    if not isinstance(value, tuple) or len(value) == 0 or not isinstance(value[0], str):
        return False
    return value[0] in PARTS and len(value) == 1 + PARTS[value[0]]


def performed(workspace, edit):
    """Perform one edit, and return its result. Raises as its method."""
    word, *parts = edit
    action = ACTIONS[word]
    return action(workspace, *parts)
