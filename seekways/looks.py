"""Labels of standings, and looks at where a task breaks its sayings."""

from seekways.errors import Broken


def label(task, word, standing):
    """What a standing is called by "standing", "name" or "turn"."""
    if word == "standing":
        return standing
    if word == "name":
        return task.named(standing)
    return min([task.named(one) for one in all_turned(task, standing)])


def all_turned(task, standing):
    """A standing and all that turnings, again and again, come to from it."""
    met = {standing: True}
    waiting = [standing]
    while waiting:
        one = waiting.pop()
        for number in range(task.turnings()):
            other = task.turned(number, one)
            if other not in met:
                met[other] = True
                waiting.append(other)
    return list(met)


def look(task, standing):
    """The first of bound, cut, ends that breaks at a standing, or None."""
    # Nexts aren't to be asked of a done one.
    nexts = () if task.is_done(standing) else task.nexts(standing)
    other = breaks_bound(task, standing, nexts)
    if other is not None:
        return ("bound", standing, other)
    other = breaks_cut(task, standing, nexts)
    if other is not None:
        return ("cut", standing, other)
    other = breaks_ends(task, standing, nexts)
    if other is not None:
        return ("ends", standing, other)
    return None


def breaks_bound(task, standing, nexts):
    """What shows that the bound is too great there, or None."""
    bound = task.bound(standing)
    if task.is_done(standing):
        return None if bound == 0 else standing
    for cost, to in nexts:
        if bound > cost + task.bound(to):
            return to
    return None


def breaks_cut(task, standing, nexts):
    """What shows that the cut is wrong there, or None."""
    if not task.cut(standing):
        return None
    if task.is_done(standing):
        return standing
    for cost, to in nexts:
        if not task.cut(to):
            return to
    return None


def breaks_ends(task, standing, nexts):
    """What shows that the ends, or what is ahead of a next, are wrong, or None."""
    ends = task.ends()
    if ends is None:
        return None
    for end in ends:
        if not task.has(end) or not task.is_done(end):
            return end
    for cost, to in nexts:
        if (cost, standing) not in task.ahead(to):
            return to
    if task.is_done(standing) and standing not in ends:
        return standing
    return None


def look_alike(task, word, one, other):
    """The break that two standings of one label by a word show, or None."""
    if are_alike(task, word, one, other):
        return None
    return (word, other, one)


def are_alike(task, word, one, other):
    """Whether two standings are alike in all that a label stands for."""
    if task.is_done(one) != task.is_done(other) or task.cut(one) != task.cut(other):
        return False
    if task.bound(one) != task.bound(other):
        return False
    return task.is_done(one) or labelled_nexts(task, word, one) == labelled_nexts(task, word, other)


def labelled_nexts(task, word, standing):
    """The pairs (cost, label of the next) of all nexts, sorted."""
    return sorted([(cost, label(task, word, to)) for cost, to in task.nexts(standing)])


def look_ahead(task, standing):
    """The break that the first wrong one ahead of a standing shows, or None."""
    for cost, one in task.ahead(standing):
        if not comes_ahead(task, cost, one, standing):
            return ("ahead", standing, one)
    return None


def comes_ahead(task, cost, one, standing):
    """Whether a thing is a standing that comes ahead of another for this cost, within its bound."""
    if not task.has(one) or task.is_done(one) or (cost, standing) not in task.nexts(one):
        return False
    return task.bound(one) <= cost + task.bound(standing)


def refuse_break(told):
    """Refuse with what a look told, where it told a break."""
    if told is not None:
        saying, standing, other = told
        raise Broken(saying, standing, other)
