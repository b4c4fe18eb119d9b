"""Notebooks: cells over registers, and what was evaluated of them."""

from liveclaims.cells import all_read, are_rowwise, are_simple, dependency_order, label_numbers, plans_for
from liveclaims.errors import BadLabel, BadName, BadRegisters, BadStep, Breaks, Cycle, InUse, TooLarge, UnknownName
from liveclaims.registers import Register, is_name
from liveclaims.running import run
from liveclaims.steps import check, chosen_index, labels_of, reads_of
from liveclaims.tables import register_table

MOST_REGISTERS = 6
MOST_CELLS = 40


def check_registers(registers):
    if not isinstance(registers, list) or len(registers) == 0 or len(registers) > MOST_REGISTERS:
        raise BadRegisters(None)
    names = []
    for index, origin in enumerate(registers):
        if not isinstance(origin, Register) or origin.name() in names:
            raise BadRegisters(index)
        names.append(origin.name())


class Notebook:
    """Cells over registers. A Register is kept itself, so its later changes are seen."""

    def __init__(self, registers):
        check_registers(registers)
        self.origins = list(registers)
        # From the cells' names to their pipelines and to their columns.
        self.pipes = {}
        self.shapes = {}
        # From labels to indexes; a label that was not chosen is not in it.
        self.chosen = {}
        # From the cells' names to (resolved pipeline, tables read, result) of the last evaluation.
        self.kept = {}
        self.listed = []
        self.asked = []

    def register_shapes(self):
        return {origin.name(): origin.columns() for origin in self.origins}

    def register_tables(self):
        return {origin.name(): register_table(origin) for origin in self.origins}

    def check_cell(self, name):
        # A thing that is no text may not be one that can be looked up.
        if not isinstance(name, str) or name not in self.pipes:
            raise UnknownName(name)

    def check_new_cell(self, name, pipeline):
        if not is_name(name) or name in self.register_shapes():
            raise BadName(name)
        tables = self.register_shapes()
        tables.update({cell: self.shapes[cell] for cell in self.shapes if cell != name})
        check(tables, pipeline)
        if name in all_read(self.pipes, [other for other in reads_of(pipeline) if other in self.pipes]):
            raise Cycle(name)

    def shapes_with(self, pipes):
        """The columns of the cells as they would be."""
        tables = self.register_shapes()
        shapes = {}
        for cell in dependency_order(pipes):
            try:
                shapes[cell] = check(tables, pipes[cell])
            except BadStep:
                raise Breaks(cell) from None
            tables[cell] = shapes[cell]
        return shapes

    def check_labels(self, name, pipeline):
        numbers = label_numbers({cell: self.pipes[cell] for cell in self.pipes if cell != name})
        for label, number in labels_of(pipeline):
            if numbers.get(label, number) != number:
                raise BadLabel(label)

    def replace_cells(self, pipes, shapes):
        """Takes these cells instead; the choice of a label that is gone or has changed is forgotten."""
        before = label_numbers(self.pipes)
        after = label_numbers(pipes)
        self.chosen = {label: self.chosen[label] for label in self.chosen
                       if label in after and after[label] == before[label]}
        self.pipes = pipes
        self.shapes = shapes

    def put(self, name, pipeline):
        self.check_new_cell(name, pipeline)
        pipes = dict(self.pipes)
        pipes[name] = pipeline
        shapes = self.shapes_with(pipes)
        self.check_labels(name, pipeline)
        if len(pipes) > MOST_CELLS:
            raise TooLarge(len(pipes))
        self.replace_cells(pipes, shapes)

    def drop(self, name):
        self.check_cell(name)
        users = sorted([cell for cell in self.pipes if name in reads_of(self.pipes[cell])])
        if len(users) > 0:
            raise InUse(users)
        pipes = {cell: self.pipes[cell] for cell in self.pipes if cell != name}
        self.replace_cells(pipes, {cell: self.shapes[cell] for cell in pipes})
        self.kept = {cell: self.kept[cell] for cell in self.kept if cell != name}

    def choose(self, label, index):
        numbers = label_numbers(self.pipes)
        if not isinstance(label, str) or label not in numbers:
            raise UnknownName(label)
        self.chosen[label] = chosen_index({label: index}, label, numbers[label])

    def setting(self):
        return {label: self.chosen.get(label, 0) for label in label_numbers(self.pipes)}

    def registers(self):
        return list(self.origins)

    def cells(self):
        return {name: self.pipes[name] for name in self.names()}

    def names(self):
        return dependency_order(self.pipes)

    def pipeline(self, name):
        self.check_cell(name)
        return self.pipes[name]

    def columns(self, name):
        self.check_cell(name)
        return self.shapes[name]

    def reads(self, name):
        self.check_cell(name)
        return reads_of(self.pipes[name])

    def labels(self, name):
        self.check_cell(name)
        numbers = label_numbers({cell: self.pipes[cell] for cell in all_read(self.pipes, [name])})
        return list(numbers.items())

    def value(self, name, *, setting=None):
        self.check_cell(name)
        if setting is None:
            return self.current_value(name)
        for label, number in self.labels(name):
            chosen_index(setting, label, number)
        tables = self.register_tables()
        for cell, plan in plans_for(self.pipes, [name], setting).items():
            tables[cell] = run(tables, plan)
        return tables[name]

    def current_value(self, name):
        tables = self.register_tables()
        for cell, plan in plans_for(self.pipes, [name], self.chosen).items():
            tables[cell] = self.looked_at(cell, plan, {other: tables[other] for other in reads_of(plan)})
        return tables[name]

    def looked_at(self, cell, plan, tables):
        """The value of a cell that reads these tables, evaluated only if the kept one does not stand."""
        held = self.kept.get(cell)
        if held is not None and held[0] == plan and held[1] == tables:
            return held[2]
        # Listed ahead of the run, which may raise TooLarge.
        self.listed.append(cell)
        found = run(tables, plan)
        self.kept[cell] = (plan, tables, found)
        return found

    def evaluated(self):
        return list(self.listed)

    def is_simple(self, name):
        self.check_cell(name)
        return are_simple(plans_for(self.pipes, [name], self.chosen))

    def is_rowwise(self, name):
        self.check_cell(name)
        return are_rowwise(plans_for(self.pipes, [name], self.chosen))

    def ask(self, claim, setting):
        """Lists a try, unless it is listed; the setting is a tuple of (label, index)."""
        if (claim, setting) not in self.asked:
            self.asked.append((claim, setting))

    def tries(self):
        return list(self.asked)

    def twin(self):
        copied = Notebook(self.origins)
        copied.pipes = dict(self.pipes)
        copied.shapes = dict(self.shapes)
        copied.chosen = dict(self.chosen)
        copied.kept = dict(self.kept)
        copied.asked = list(self.asked)
        return copied

    def __eq__(self, other):
        return (isinstance(other, Notebook) and self.origins == other.origins
                and self.pipes == other.pipes and self.setting() == other.setting())

    def __len__(self):
        return len(self.pipes)
