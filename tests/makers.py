"""Told tasks made by a seed: such as keep all sayings, and such as break some."""

import random

from seekways.told import Told


def true_costs(nexts, done):
    """Of each node the least cost to a done one, None where there is none."""
    costs = [0 if one else None for one in done]
    for again in nexts:
        for at, pairs in enumerate(nexts):
            found = [cost + costs[to] for cost, to in pairs if costs[to] is not None]
            if not done[at] and found:
                costs[at] = min(found)
    return costs


def plain_graph(rng):
    """Nexts and done of some nodes, of which others are copies."""
    many = rng.randint(2, 6)
    done = [rng.random() < 0.3 and at > 0 or rng.random() < 0.04 for at in range(many)]
    nexts = [[(rng.randint(0, 4), rng.randrange(many)) for way in range(rng.randint(0, 3))] for at in range(many)]
    return nexts, done


def bounds_of(rng, costs):
    """Bounds that keep their saying."""
    by = rng.randrange(4)
    if by == 0:
        return [0] * len(costs)
    return [60 if cost is None else (cost, cost // 2, min(cost, 3))[by - 1] for cost in costs]


def heads_of(table):
    """What is ahead of each row, as the table has it."""
    heads = [[] for at in table]
    for at, (nexts, done, name, bound, cut) in enumerate(table):
        for cost, to in nexts:
            if not done:
                heads[to].append((cost, at))
    return tuple(tuple(head) for head in heads)


def kept_told(seed):
    """A told task that keeps all its sayings; rows are copies of fewer nodes."""
    rng = random.Random(seed)
    nexts, done = plain_graph(rng)
    costs = true_costs(nexts, done)
    bounds = bounds_of(rng, costs)
    cuts = rng.random() < 0.5
    nodes = [0] + [at for at in range(len(done)) for copy in range(rng.randint(1, 3))]
    by_name = rng.random() < 0.6
    table = []
    for at, node in enumerate(nodes):
        copies = [[other for other, one in enumerate(nodes) if one == to] for cost, to in nexts[node]]
        pairs = [(cost, rng.choice(some)) for (cost, to), some in zip(nexts[node], copies)]
        rng.shuffle(pairs)
        name = node if by_name else 50 - at
        table.append((tuple(pairs), done[node], name, bounds[node], cuts and costs[node] is None))
    table = tuple(table)
    turn = list(range(len(nodes)))
    for node in range(len(done)):
        some = [at for at, one in enumerate(nodes) if one == node]
        for at, to in zip(some, some[1:] + some[:1]):
            turn[at] = to
    if rng.random() < 0.3:
        return Told(table, turns=(tuple(turn),))
    ends = tuple(at for at, node in enumerate(nodes) if done[node])
    return Told(table, turns=(tuple(turn),), ends=ends, heads=heads_of(table))


def put(rows, at, thing):
    return rows[:at] + (thing,) + rows[at + 1:]


def broken_told(seed):
    """A told task with one thing or more put otherwise, so that it may break a saying."""
    rng = random.Random(-seed - 1)
    task = kept_told(seed)
    table, turns, ends, heads = task.table, task.maps, task.targets, task.heads
    for again in range(rng.randint(1, 3)):
        at = rng.randrange(len(table))
        nexts, done, name, bound, cut = table[at]
        by = rng.randrange(8)
        if by == 0:
            table = put(table, at, (nexts, done, name, bound + rng.randint(1, 3), cut))
        elif by == 1:
            table = put(table, at, (nexts, done, name, bound, not cut))
        elif by == 2:
            table = put(table, at, (nexts, not done, name, bound, cut))
        elif by == 3:
            table = put(table, at, (nexts, done, rng.choice(table)[2], bound, cut))
        elif by == 4:
            table = put(table, at, (nexts[1:], done, name, bound, cut))
        elif by == 5 and ends is not None:
            ends = tuple(sorted(set(ends) ^ {at}))
        elif by == 6 and heads is not None:
            heads = put(heads, at, heads[at][1:])
        elif by == 7 and heads is not None:
            heads = put(heads, at, heads[at] + ((rng.randint(0, 3), rng.randrange(len(table))),))
    return Told(table, turns=turns, ends=ends, heads=heads)


def answers_of(task, most=400):
    """Answers of a task, as pairs (cost, steps), at most so many."""
    found = []

    def go(standing, steps, cost, way):
        if task.is_done(standing):
            found.append((cost, steps))
        elif len(found) < most:
            for step, (price, to) in enumerate(task.nexts(standing)):
                if to not in way:
                    go(to, steps + (step,), cost + price, way + (to,))

    go(task.start(), (), 0, (task.start(),))
    return found


def least_cost(task):
    """What the least answer costs, None where there is none: over all standings, not over ways."""
    costs = {task.start(): 0}
    waiting = [task.start()]
    while waiting:
        standing = waiting.pop()
        if not task.is_done(standing):
            for cost, to in task.nexts(standing):
                if to not in costs or costs[standing] + cost < costs[to]:
                    costs[to] = costs[standing] + cost
                    waiting.append(to)
    return min([costs[one] for one in costs if task.is_done(one)], default=None)
