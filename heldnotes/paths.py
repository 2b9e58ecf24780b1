"""Shortest paths from one node to all others that can be reached."""


def shortest_paths(first, links):
    """A dict from each node that can be reached to a shortest path there, the nearest nodes first.

    links tells of a node the list of pairs (label, node behind); a path is a list of labels.
    """
    paths = {first: []}
    nodes = [first]
    while nodes:
        further = []
        for node in nodes:
            for label, behind in links(node):
                if behind not in paths:
                    paths[behind] = paths[node] + [label]
                    further.append(behind)
        nodes = further
    return paths
