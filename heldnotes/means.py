"""Walks along links that each change a number, and the mean changes of those that end where they begin.

links is a dict from nodes to lists of pairs (node behind, change), all nodes behind being keys of it, too.
A RATE is a pair (above, below) of integers, the second above 0: the first divided by the second.
"""

from math import factorial, gcd


def one_further(links, sums):
    """For each node where walks with one link more can end, the greatest change of one.

    sums tells the same of the walks without this link.
    """
    further = {}
    for node in sums:
        for behind, change in links[node]:
            total = sums[node] + change
            if behind not in further or further[behind] < total:
                further[behind] = total
    return further


def in_lowest_terms(above, below):
    """The rate of these two in lowest terms."""
    common = gcd(above, below)
    return (above // common, below // common)


def greatest_mean(links):
    """Tell the greatest mean of the walks that end where they begin, in lowest terms; None if there is none."""
    many = len(links)
    sums = [{node: 0 for node in links}]
    for _ in links:
        sums.append(one_further(links, sums[-1]))
    # All numbers of links by which something is divided divide this, so that integers will do.
    common = factorial(many)
    # By Karp's theorem: of the least means by which the walks with as many links as there are nodes
    # differ from the shorter ones to the same node, the greatest.
    means = [min([(sums[many][node] - sums[fewer][node]) * (common // (many - fewer))
                  for fewer in range(many) if node in sums[fewer]])
             for node in sums[many]]
    return in_lowest_terms(max(means), common) if means else None


def heights(links, rate):
    """A dict of numbers of the nodes, such that below times a change is at most above plus the rise along its link.

    None if there is none: then some walk that ends where it begins has a greater mean.
    """
    above, below = rate
    numbers = {node: 0 for node in links}
    # A node is raised for the last time by a walk that comes to no node twice.
    for _ in links:
        raised = False
        for node in links:
            for behind, change in links[node]:
                least = numbers[node] + below * change - above
                if numbers[behind] < least:
                    numbers[behind] = least
                    raised = True
        if not raised:
            return numbers
    return None


def without_ends(links):
    """The links from and to those nodes only from which one can go on and on."""
    left = links
    ends = [node for node in left if not left[node]]
    while ends:
        left = {node: [link for link in left[node] if link[0] not in ends] for node in left if left[node]}
        ends = [node for node in left if not left[node]]
    return left


def steepest_links(links, rate):
    """From some nodes one link each, such that who follows them goes on and on, by the greatest mean, this rate."""
    above, below = rate
    numbers = heights(links, rate)
    # No rise is less than this, so that walks along links with just this rise have the mean.
    steep = {node: [(behind, change) for behind, change in links[node]
                    if numbers[behind] - numbers[node] == below * change - above]
             for node in links}
    left = without_ends(steep)
    return {node: left[node][0] for node in left}
