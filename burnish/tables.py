"""Tables: whether a plain value has the form of one, whatever function it is for."""

_EFFECTS = ("frees", "io", "loops", "reads", "traps", "writes")

# No number in a range, a linear equation or a mask is greater than the greatest of i64.
_LIMIT = 1 << 64


def is_whole(value):
    """Tell whether a plain value is an integer; True and False are not."""
    return isinstance(value, int) and not isinstance(value, bool)


def is_name(value):
    """Tell whether a plain value is an integer that is not negative."""
    return is_whole(value) and value >= 0


def is_word(value):
    """Tell whether a plain value is a number that an integer kind has."""
    return is_whole(value) and 0 <= value < _LIMIT


def has_items(value, count):
    """Tell whether a plain value is a tuple of this many items."""
    return isinstance(value, tuple) and len(value) == count


def is_tuple_of(value, told):
    """Tell whether a plain value is a tuple of items of each of which told is true."""
    return isinstance(value, tuple) and all([told(item) for item in value])


def rises(row):
    """Tell whether a row is strictly ascending."""
    return all([row[k] < row[k + 1] for k in range(len(row) - 1)])


def is_edge(value):
    """Tell whether a plain value is a pair of integers: an edge, a place or a pair of labels."""
    return has_items(value, 2) and is_whole(value[0]) and is_whole(value[1])


def is_name_pair(value):
    """Tell whether a plain value is a pair of names."""
    return has_items(value, 2) and is_name(value[0]) and is_name(value[1])


def is_range(value):
    """Tell whether a plain value has the form of a range."""
    return has_items(value, 4) and is_tuple_of(value, is_word)


def is_site(value):
    """Tell whether a plain value has the form of a site."""
    if value == ("outside",):
        return True
    if not has_items(value, 2) or not isinstance(value[0], str):
        return False
    if value[0] == "at":
        return is_name(value[1])
    return value[0] == "global" and isinstance(value[1], str)


def is_sites(value):
    """Tell whether a plain value is an ascending tuple of sites."""
    return is_tuple_of(value, is_site) and rises(value)


def _is_fact(value):
    """Tell whether a plain value is a name with a range or sites."""
    return has_items(value, 2) and is_name(value[0]) and (is_range(value[1]) or is_sites(value[1]))


def first_items(rows):
    """Return the list of the first items of rows."""
    return [row[0] for row in rows]


def is_value_table(value):
    """Tell whether a plain value has the form of a value table."""
    if not has_items(value, 3):
        return False
    dead, escaped, facts = value
    if not is_tuple_of(dead, is_edge) or not is_tuple_of(escaped, is_name) or not is_tuple_of(facts, _is_fact):
        return False
    return rises(dead) and rises(escaped) and rises(first_items(facts))


def _is_effect(value):
    """Tell whether a plain value is the word of an effect."""
    return isinstance(value, str) and value in _EFFECTS


def _is_effect_row(value):
    """Tell whether a plain value is a pair of a string and ascending effects."""
    if not has_items(value, 2) or not isinstance(value[0], str):
        return False
    return is_tuple_of(value[1], _is_effect) and rises(value[1])


def is_effect_table(value):
    """Tell whether a plain value has the form of an effect table."""
    return is_tuple_of(value, _is_effect_row)


def _is_class(value):
    """Tell whether a plain value is an ascending tuple of at least two names."""
    return is_tuple_of(value, is_name) and len(value) > 1 and rises(value)


def is_equation_table(value):
    """Tell whether a plain value has the form of an equation table."""
    if not is_tuple_of(value, _is_class):
        return False
    names = {}
    count = 0
    for row in value:
        count += len(row)
        for name in row:
            names[name] = True
    return len(names) == count and rises(value)


def _is_equation(value):
    """Tell whether a plain value is (s, i, c, d)."""
    return has_items(value, 4) and is_name(value[0]) and is_name(value[1]) and is_word(value[2]) and is_word(value[3])


def is_linear_table(value):
    """Tell whether a plain value has the form of a linear table."""
    if not is_tuple_of(value, _is_equation) or not rises(first_items(value)):
        return False
    told = {row[0]: True for row in value}
    return not any([row[1] in told for row in value])


def _is_demand(value):
    """Tell whether a plain value is a name with a mask."""
    return has_items(value, 2) and is_name(value[0]) and is_word(value[1])


def is_demand_table(value):
    """Tell whether a plain value has the form of a demand table."""
    return is_tuple_of(value, _is_demand) and rises(first_items(value))
