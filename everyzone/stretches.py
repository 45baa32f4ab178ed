"""Stretches: the integers from a low one up to a high one."""


def joined(stretches):
    """The ascending list of the stretches with the same integers of which no two overlap or touch each other."""
    found = []
    for low, high in sorted(stretches):
        if found and low <= found[-1][1] + 1:
            found[-1] = (found[-1][0], max(found[-1][1], high))
        else:
            found.append((low, high))
    return found
