"""Trees: all tries of a task in order, and when leaves are just those."""

from seekways.forms import are_numbers, is_tuple_of

MOST_LEAVES = 2000


def end_of(task, standing, way, cuts):
    """How a try ends at a standing, come to along a way; None where it goes on."""
    if task.is_done(standing):
        return "done"
    if standing in way:
        return "round"
    if cuts and task.cut(standing):
        return "cut"
    if not task.nexts(standing):
        return "none"
    return None


def all_leaves(task, cuts):
    """The leaves (steps, why) of all tries, in order."""
    # Each with the standings ahead on its way; the last one is gone on with first.
    waiting = [((), task.start(), ())]
    while waiting:
        steps, standing, way = waiting.pop()
        why = end_of(task, standing, way, cuts)
        if why is None:
            nexts = task.nexts(standing)
            for step in reversed(range(len(nexts))):
                waiting.append((steps + (step,), nexts[step][1], way + (standing,)))
        else:
            yield (steps, why)


def is_leaf(thing, leaf):
    """Whether a thing is just this leaf."""
    # (False,) equals (0,), so the form is asked first.
    return is_tuple_of(thing, 2, 2) and are_numbers(thing[0], 0) and thing == leaf


def tree_holds(task, thing, *, cuts=False):
    """Whether a thing, whatever it is, is what one comes to by all tries in order."""
    if not is_tuple_of(thing, 1, MOST_LEAVES):
        return False
    many = 0
    for leaf in all_leaves(task, cuts):
        if many == len(thing) or not is_leaf(thing[many], leaf):
            return False
        many += 1
    return many == len(thing)
