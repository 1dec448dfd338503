"""Where states get to by a word that is done again and again."""


def state_behind(table, state, marks):
    """The state behind some marks; the table has for each state the next one by each mark."""
    for mark in marks:
        state = table[state][mark]
    return state


def orbit(table, state, marks):
    """The states behind 0, 1, 2 .. times the marks, and the number of the one that comes again."""
    order = []
    numbers = {}
    while state not in numbers:
        numbers[state] = len(order)
        order.append(state)
        state = state_behind(table, state, marks)
    return order, numbers[state]


def orbit_at(order, back, times):
    """The state behind so many times."""
    if times < len(order):
        return order[times]
    return order[back + (times - back) % (len(order) - back)]


def visits(order, back, times):
    """How often each state of an orbit is the one ahead of a repetition."""
    if times <= len(order):
        return [1] * times + [0] * (len(order) - times)
    rounds, rest = divmod(times - len(order), len(order) - back)
    return [
        1 if number < back else 1 + rounds + (1 if number - back < rest else 0)
        for number in range(len(order))
    ]


def state_behind_blocks(table, state, blocks):
    """The state behind some blocks."""
    for marks, times in blocks:
        order, back = orbit(table, state, marks)
        state = orbit_at(order, back, times)
    return state
