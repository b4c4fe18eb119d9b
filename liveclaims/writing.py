"""Expressions and pipelines as texts."""


def show_rational(number):
    n, d = number
    return str(n) if d == 1 else f"{n}/{d}"


def show_value(value):
    if value is True or value is False:
        return "#yes" if value else "#no"
    if isinstance(value, str):
        return "'" + value
    return show_rational(value)


def show_expression(expression):
    word = expression[0]
    if word == "column":
        return expression[1]
    if word == "value":
        return "=" + show_value(expression[1])
    return "(" + " ".join([word] + [show_expression(operand) for operand in expression[1:]]) + ")"


def show_group(step):
    word, names, totals = step
    return [" ".join([word] + list(names))] + ["  total " + " ".join(thing) for thing in totals]


def show_choose(step):
    word, label, alternatives = step
    lines = [word + " " + label]
    for steps in alternatives:
        lines.append("  or")
        lines.extend(["    " + line for inner in steps for line in show_step(inner)])
    return lines


def show_step(step):
    """The lines of a step."""
    word = step[0]
    if word == "group":
        return show_group(step)
    if word == "choose":
        return show_choose(step)
    if word == "keep" or word == "set":
        # The expression stands last in both.
        return [" ".join(list(step[:-1]) + [show_expression(step[-1])])]
    if word == "select":
        return [" ".join([word] + list(step[1]))]
    if word == "join":
        return [" ".join([word, step[1], "on"] + list(step[2]))]
    return [" ".join([str(thing) for thing in step])]


def show_pipeline(pipeline):
    source, steps = pipeline
    return "\n".join(["from " + source] + [line for step in steps for line in show_step(step)])
