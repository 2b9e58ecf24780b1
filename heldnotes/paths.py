"""Shortest paths from one node to others.

links tells of a node the list of pairs (label, node behind); a path is a list of labels.
"""


def search(first, links, is_end):
    """Follow the links from the first node, the nearest nodes first, up to a link that is_end tells to be an end.

    Returned are a dict from each node that was come to, the nearest first, to a shortest path there, and
    the path that ends with the first end, or None if there is no end.
    """
    paths = {first: []}
    nodes = [first]
    while nodes:
        further = []
        for node in nodes:
            for label, behind in links(node):
                if is_end(node, label):
                    return paths, paths[node] + [label]
                if behind not in paths:
                    paths[behind] = paths[node] + [label]
                    further.append(behind)
        nodes = further
    return paths, None


def shortest_paths(first, links):
    """A dict from each node that can be reached, the nearest first, to a shortest path there."""
    return search(first, links, lambda node, label: False)[0]


def shortest_path(first, links, is_end):
    """A shortest path whose last link is an end, or None."""
    return search(first, links, is_end)[1]
