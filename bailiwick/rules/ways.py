"""The ways upward from class to class, in tables of classes by their names."""


def all_above(table, name):
    """The names of all classes that are reached upward from a class."""
    found = []
    ahead = list(table[name].above)
    while ahead != []:
        upper = ahead.pop()
        if upper not in found:
            found.append(upper)
            ahead.extend(table[upper].above)
    return found


def with_above(table, name):
    """The names of a class and of all that are reached upward from it."""
    return [name] + all_above(table, name)


def is_longer(table, name, most):
    """Whether some way upward, the class itself counted, has more classes than so many."""
    uppers = [name]
    for _ in range(most):
        uppers = sorted({upper for each in uppers for upper in table[each].above})
    return uppers != []


def shape_line(table, name):
    """The names of a shape and of the shapes above it, the nearest first."""
    line = [name]
    uppers = [name]
    while uppers != []:
        # At most one shape stands directly above a shape.
        uppers = [upper for upper in table[line[-1]].above if table[upper].family == "shape"]
        line.extend(uppers)
    return line


def holding_named(table, name):
    """The types that name the entries of a shape, its own or those of a shape above it."""
    for shape in shape_line(table, name):
        if table[shape].named != ():
            return table[shape].named
    return ()


def holding_places(table, name):
    """The places of a shape, its own or those of a shape above it."""
    for shape in shape_line(table, name):
        if table[shape].places != ():
            return table[shape].places
    return ()


def told_extras(table, name):
    """The extras that a shape or one above it tells."""
    return [extra for shape in shape_line(table, name) for extra in table[shape].lets]


def borne_types(table, name):
    """The types that a class and those above it must and may bear."""
    words = []
    for each in with_above(table, name):
        words.extend(table[each].must)
        words.extend(table[each].may)
    return words
