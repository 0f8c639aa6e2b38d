"""Which states of a listener do the same behind all signals whatever.

Tables have for each signal the list of the states behind it, as in tables.
"""


def classes_of(table, on):
    """For each state the number of its class: equal for states that do the same. on tells in which it is on."""
    classes = numbered(on)
    while True:
        # Each class is split by where the signals lead, until none is.
        finer = numbered([
            (own, *[classes[states[state]] for states in table.values()]) for state, own in enumerate(classes)
        ])
        if max(finer) == max(classes):
            return classes
        classes = finer


def numbered(keys):
    """For each key a number, equal for equal ones."""
    numbers = {}
    for key in keys:
        numbers.setdefault(key, len(numbers))
    return [numbers[key] for key in keys]


def first_members(table, classes):
    """The state that is found first of each class, in the order in which they are found: 0 first."""
    found = {classes[0]: 0}
    row = [0]
    while row:
        longer = []
        for state in row:
            for states in table.values():
                following = states[state]
                if classes[following] not in found:
                    found[classes[following]] = following
                    longer.append(following)
        row = longer
    return list(found.values())
