"""Edges with weights, from state to state by signs: which ones choices add, and the lightest ways along them.

A *table* is a dict from pairs (STATE, SIGN) to dicts from the states to which edges with the sign lead from there to
the weights of these edges. An edge that a choice adds weighs as many steps as it stands for. A dict from heads to
the choices that can be taken there is called free.
"""

from labelroads.shapes import leads, may_end


def table_of(edges):
    """The table of edges without weight."""
    table = {}
    for state, sign, other in edges:
        row = table.setdefault((state, sign), {})
        row[other] = 0
    return table


def edges_of(table):
    """The edges of a table, ascending."""
    return tuple(sorted([(state, sign, other) for (state, sign), row in table.items() for other in row]))


def weight_of(table, edge):
    return table[edge[:2]][edge[2]]


def signs_of(head, word):
    """The signs of the labels that a choice lays; the end of the stack too, if the head is without a label."""
    return word if head[1] else (*word, "")


def layers(table, state, signs):
    """Behind none, one, .. of the signs: a dict from the states to which edges lead to the least weights."""
    found = [{state: 0}]
    for sign in signs:
        found.append(next_layer(table, found[-1], sign))
    return found


def next_layer(table, layer, sign):
    """The layer that lies behind a layer by edges with a sign."""
    found = {}
    for state, weight in layer.items():
        for other, more in table.get((state, sign), {}).items():
            if other not in found or weight + more < found[other]:
                found[other] = weight + more
    return found


def reached(table, state, signs):
    """The layer behind all of the signs."""
    return layers(table, state, signs)[-1]


def is_saturated(table, free):
    """Whether a table has all edges that the choices want."""
    for head in free:
        row = table.get(head, {})
        for out, word in free[head]:
            if not all([state in row for state in reached(table, out, signs_of(head, word))]):
                return False
    return True


def saturated(edges, free):
    """The table of edges without weight and of all that choices add to them, each as light as can be."""
    table = table_of(edges)
    changed = True
    while changed:
        changed = False
        for head in free:
            for choice in free[head]:
                if add_edges(table, head, choice):
                    changed = True
    return table


def add_edges(table, head, choice):
    """Adds the edges that a choice wants, or makes them lighter; whether there was one to add or make lighter."""
    out, word = choice
    row = table.setdefault(head, {})
    wanted = reached(table, out, signs_of(head, word))
    lighter = [state for state in wanted if state not in row or wanted[state] + 1 < row[state]]
    for state in lighter:
        row[state] = wanted[state] + 1
    return len(lighter) > 0


def lightest_path(table, state, signs, end):
    """The edges of a lightest path from a state by signs to another state to which there is one."""
    found = layers(table, state, signs)
    path = []
    for place in range(len(signs) - 1, -1, -1):
        path.append(lightest_edge(table, found[place], signs[place], end))
        end = path[-1][0]
    return tuple(path[::-1])


def lightest_edge(table, layer, sign, end):
    """The edge with the sign by which a lightest path leads from a layer to a state behind it."""
    edges = [(state, sign, end) for state in layer if end in table.get((state, sign), {})]
    return min(edges, key=lambda edge: layer[edge[0]] + weight_of(table, edge))


def unfolded(table, free, edges):
    """The choices for which edges, one behind the other, stand, up to the first edge without weight."""
    meanings = {}
    waiting = list(edges[::-1])
    found = []
    while waiting and weight_of(table, waiting[-1]) > 0:
        edge = waiting.pop()
        if edge not in meanings:
            meanings[edge] = meaning(table, free, edge)
        choice, path = meanings[edge]
        found.append(choice)
        waiting.extend(path[::-1])
    return tuple(found)


def meaning(table, free, edge):
    """A choice for which an edge with weight stands, and the edges behind it."""
    head, end = edge[:2], edge[2]
    left = weight_of(table, edge) - 1
    fitting = [
        (out, word) for out, word in free[head] if reached(table, out, signs_of(head, word)).get(end) == left
    ]
    out, word = fitting[0]
    return (out, word), lightest_path(table, out, signs_of(head, word), end)


def lightest_stack(table, labels, road, shape, end):
    """The least weight of paths from a road to an end by the labels of a stack of the shape and then by "".

    Returns a pair of it and such a stack, or None if there is no such path.
    """
    best = {(road, 0): (0, ())}
    waiting = [(road, 0)]
    while waiting:
        node = waiting.pop(0)
        for other, told in stacks_behind(table, labels, shape, node, best[node]):
            if other not in best or told[0] < best[other][0]:
                best[other] = told
                waiting.append(other)
    ends = []
    for (state, done), (weight, stack) in best.items():
        row = table.get((state, ""), {})
        if may_end(shape, done) and end in row:
            ends.append((weight + row[end], stack))
    return min(ends, default=None)


def shortest_stack(table, labels, road, shape, end):
    """A shortest stack of the shape by whose labels, and then by "", edges lead from a road to an end, or None."""
    by_labels = {
        (state, sign): {other: 1 if sign else 0 for other in row} for (state, sign), row in table.items()
    }
    found = lightest_stack(by_labels, labels, road, shape, end)
    return None if found is None else found[1]


def stacks_behind(table, labels, shape, node, told):
    """Each pair of a state and a number of items that one more label leads to, with the weight and the stack then."""
    state, done = node
    weight, stack = told
    found = []
    for label in labels:
        row = table.get((state, label), {})
        for place in leads(shape, done, label):
            found.extend([((other, place), (weight + row[other], (*stack, label))) for other in row])
    return found
