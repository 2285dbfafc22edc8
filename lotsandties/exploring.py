"""Exploring all standings that lives lead to, in the order of the lives: shorter ones first, then by their letters.

A step is a tuple of a standing and of a letter that is let there.
"""


def explore(start, behind, is_fault, *, whole=True):
    """Return what lives from a start lead to.

    behind is a function from a standing to the list of the tuples of letter and standing behind it, is_fault one that
    tells where a life ends as a faulty one. Three things are returned: the list of the standings without fault; the
    dict from each of them to the last step of the first life to it; and the last step of the first faulty life, or
    None. Unless the whole is asked for, no more is looked for behind the first fault.
    """
    order = [start]
    steps_to = {start: None}
    fault = None
    at = 0
    while at < len(order) and (whole or fault is None):
        here = order[at]
        for letter, standing in behind(here):
            if is_fault(standing):
                fault = fault or (here, letter)
            elif standing not in steps_to:
                steps_to[standing] = (here, letter)
                order.append(standing)
        at += 1
    return (order, steps_to, fault)


def life_of(step, steps_to):
    """Return the letters of the life that a step is the last one of; None stands for no step."""
    letters = []
    while step is not None:
        standing, letter = step
        letters.append(letter)
        step = steps_to[standing]
    letters.reverse()
    return letters
