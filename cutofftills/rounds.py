"""Parts of a graph: nodes from each of which steps lead round to all others of the part.

A graph is a list of lists: for each node, from 0 on, the nodes to which steps lead from it.
"""


def follow(graph, start, seen):
    """The nodes behind a start that are not seen yet, each behind all to which it led first."""
    order = []
    seen[start] = True
    trail = [(start, 0)]
    while trail:
        node, at = trail.pop()
        if at == len(graph[node]):
            order.append(node)
            continue
        trail.append((node, at + 1))
        other = graph[node][at]
        if not seen[other]:
            seen[other] = True
            trail.append((other, 0))
    return order


def turned(graph):
    """The graph with all steps turned round."""
    backward = [[] for _ in graph]
    for node, others in enumerate(graph):
        for other in others:
            backward[other].append(node)
    return backward


def parts_of(graph):
    """The parts, as lists of nodes; steps lead from a part to itself and to later ones alone."""
    seen = [False for _ in graph]
    order = []
    for node in range(len(graph)):
        if not seen[node]:
            order.extend(follow(graph, node, seen))
    backward = turned(graph)
    seen = [False for _ in graph]
    parts = []
    # Kosaraju: what leads back to the node that was left last is just its part.
    for node in order[::-1]:
        if not seen[node]:
            parts.append(follow(backward, node, seen))
    return parts
