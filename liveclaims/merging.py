"""Merging: the cells and tries of two sides, and a notebook of such cells."""

from liveclaims.errors import Cycle
from liveclaims.notebooks import Notebook
from liveclaims.registers import is_name
from liveclaims.sameness import is_same
from liveclaims.steps import word_of


def agree(one, other, name):
    """Whether both lack the name, or have the same pipeline for it."""
    if name not in one or name not in other:
        return name not in one and name not in other
    return is_same(one[name], other[name])


def side_taken(base, ours, theirs, name):
    """The side whose pipeline, or lack of one, is taken; None if the name is a conflict."""
    if agree(ours, theirs, name) or agree(base, theirs, name):
        return ours
    return theirs if agree(base, ours, name) else None


def merged(base, ours, theirs):
    cells = {}
    conflicts = []
    for name in sorted(set(list(base) + list(ours) + list(theirs))):
        side = side_taken(base, ours, theirs, name)
        if side is None:
            conflicts.append(name)
        elif name in side:
            cells[name] = side[name]
    return (cells, conflicts)


def merged_tries(ours, theirs):
    return ours + [attempt for attempt in theirs if attempt not in ours]


def names_told(steps):
    """What stands second in the joins and unions of these steps, also of invalid ones, and in each choose."""
    found = []
    for step in steps:
        word = word_of(step)
        if (word == "join" or word == "union") and len(step) >= 2:
            found.append(step[1])
        if word == "choose" and len(step) == 3 and isinstance(step[2], tuple):
            for alternative in step[2]:
                if isinstance(alternative, tuple):
                    found.extend(names_told(alternative))
    return found


def reads_told(pipeline):
    """The names that a cell reads, whatever else is invalid in its pipeline."""
    if not isinstance(pipeline, tuple) or len(pipeline) != 2 or not isinstance(pipeline[1], tuple):
        return []
    return [other for other in [pipeline[0]] + names_told(pipeline[1]) if is_name(other)]


def load(registers, cells):
    notebook = Notebook(registers)
    waiting = {name: reads_told(cells[name]) for name in cells}
    while len(waiting) > 0:
        ready = [name for name in waiting if not any([other in waiting for other in waiting[name]])]
        if len(ready) == 0:
            raise Cycle(min(list(waiting)))
        least = min(ready)
        notebook.put(least, cells[least])
        del waiting[least]
    return notebook
