"""What follows from the pipelines of cells alone. Cells are a dict from names to checked pipelines without a cycle."""

from liveclaims.steps import labels_of, other_of, reads_of, resolved

# Behind these a row no longer stands for itself.
MERGING = ("first", "group", "distinct")
# What may follow them in a simple cell.
CALM = ("group", "distinct", "set", "select", "rename", "sort")
ROWWISE = ("keep", "set", "select", "rename", "sort", "sample")


def cells_read(cells, name):
    """The cells that a cell reads directly, in all alternatives."""
    return [other for other in reads_of(cells[name]) if other in cells]


def all_read(cells, names):
    """A dict of True for these cells and all that they read, directly or through others."""
    found = {}
    waiting = list(names)
    while len(waiting) > 0:
        name = waiting.pop()
        if name not in found:
            found[name] = True
            waiting.extend(cells_read(cells, name))
    return found


def dependency_order(cells):
    """Again and again the least name of those whose cells read are all listed."""
    needs = {name: cells_read(cells, name) for name in cells}
    listed = {}
    while len(listed) < len(cells):
        ready = [name for name in cells
                 if name not in listed and all([other in listed for other in needs[name]])]
        listed[min(ready)] = True
    return list(listed)


def label_numbers(cells):
    """A dict from the labels of these cells to their numbers of alternatives, ascending."""
    pairs = sorted({pair for name in cells for pair in labels_of(cells[name])})
    return {label: number for label, number in pairs}


def plans_for(cells, names, setting):
    """The resolved pipelines of these cells and of all cells that they read by them, in dependency order."""
    plans = {}
    wanted = {name: True for name in names}
    # Backwards each cell stands behind all those that read it.
    for cell in reversed(dependency_order(cells)):
        if cell in wanted:
            plans[cell] = resolved(cells[cell], setting)
            wanted.update({other: True for other in reads_of(plans[cell])})
    return {cell: plans[cell] for cell in reversed(list(plans))}


def are_simple(plans):
    """Whether the last of these cells is simple; the plans are those of plans_for, for it alone."""
    merged = {}
    for cell, (source, steps) in plans.items():
        state = merged.get(source, False)
        for step in steps:
            # A path that enters here has this step as its next one, and neither join nor union is calm.
            enters_merged = merged.get(other_of(step), False)
            if enters_merged or (state and step[0] not in CALM):
                return False
            state = state or step[0] in MERGING
        merged[cell] = state
    return True


def are_rowwise(plans):
    """Whether the last of these cells is rowwise; the plans are those of plans_for, for it alone."""
    # Without join and union there is one path, so it begins at one register's rows.
    return all([step[0] in ROWWISE for source, steps in plans.values() for step in steps])
