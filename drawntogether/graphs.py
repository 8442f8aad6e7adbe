"""The graph of a structure: its switchings, and drawing it together."""

from drawntogether.formulas import PAR, TENSOR, is_atom
from drawntogether.structures import nodes_of


class Graph:
    # edges are those that no switching changes; pars holds for each par, in
    # order, the par itself and the first and second formula that it is of.

    def __init__(self, points, edges, pars):
        self.points = points
        self.edges = edges
        self.pars = pars

    def par_edges(self, switching):
        return [(par[0], par[1 + side]) for par, side in zip(self.pars, switching)]


# For each point that is a formula of two others: it, the first, the second.
def forks(nodes):
    found = []
    waiting = []
    for point in range(len(nodes) - 1, -1, -1):
        if not is_atom(nodes[point]):
            first = waiting.pop()
            second = waiting.pop()
            found.append((point, first, second))
        waiting.append(point)
    found.reverse()
    return found


def whole_points(formulas):
    points = []
    point = 0
    for formula in formulas:
        points.append(point)
        point += len(formula)
    return points


def cut_edges(structure, formulas):
    wholes = whole_points(formulas)
    start = len(structure.conclusions)
    return [(wholes[place], wholes[place + 1]) for place in range(start, len(wholes), 2)]


def link_edges(structure, nodes):
    leaves = [point for point, node in enumerate(nodes) if is_atom(node)]
    return [(leaves[lesser], leaves[greater]) for lesser, greater in structure.links()]


def graph_of(structure):
    formulas = structure.formulas()
    nodes = nodes_of(formulas)
    edges = link_edges(structure, nodes) + cut_edges(structure, formulas)
    pars = []
    for fork in forks(nodes):
        if nodes[fork[0]] == TENSOR:
            edges.append((fork[0], fork[1]))
            edges.append((fork[0], fork[2]))
        if nodes[fork[0]] == PAR:
            pars.append(fork)
    return Graph(len(nodes), edges, pars)


class Clusters:
    # Each point leads on to another one of its cluster, the cluster's leader
    # to itself.

    def __init__(self, leads, parts):
        self.leads = leads
        self.parts = parts

    def leader(self, point):
        while self.leads[point] != point:
            # Shortens the way for the next time.
            self.leads[point] = self.leads[self.leads[point]]
            point = self.leads[point]
        return point

    # False if the two were in one cluster already.
    def merge(self, point, other):
        leader = self.leader(point)
        other_leader = self.leader(other)
        if leader == other_leader:
            return False
        self.leads[leader] = other_leader
        self.parts -= 1
        return True

    # False if one of the edges joined two points that were in one cluster
    # already: it closes a circle. The edges behind it are merged all the same.
    def merge_all(self, edges):
        all_apart = True
        for point, other in edges:
            if not self.merge(point, other):
                all_apart = False
        return all_apart

    def another(self):
        return Clusters(list(self.leads), self.parts)


def lone_points(count):
    return Clusters(list(range(count)), count)


# 1 or 0, whether there's a circle, and how many parts there are.
def switched(graph, switching):
    clusters = lone_points(graph.points)
    without_circle = clusters.merge_all(graph.edges + graph.par_edges(switching))
    return [0 if without_circle else 1, clusters.parts]


# None if no switching is bad.
def first_bad(graph):
    clusters = lone_points(graph.points)
    if not clusters.merge_all(graph.edges):
        return [0 for par in graph.pars]
    return first_bad_from(clusters, graph.pars, [])


# The first bad one of the switchings that begin with the sides chosen, the
# edges of which have been merged without a circle. It calls itself once for
# each par at most, and test and bad refuse where there are many.
def first_bad_from(clusters, pars, chosen):
    if len(chosen) == len(pars):
        return None if clusters.parts == 1 else chosen
    par = pars[len(chosen)]
    for side in (0, 1):
        trial = clusters.another()
        longer = chosen + [side]
        if not trial.merge(par[0], par[1 + side]):
            # A circle stays one whatever the other pars are switched to.
            return longer + [0 for other in pars[len(longer):]]
        found = first_bad_from(trial, pars, longer)
        if found is not None:
            return found
    return None


def draws_together(graph):
    clusters = lone_points(graph.points)
    if not clusters.merge_all(graph.edges):
        return False
    waiting = graph.pars
    taken = True
    while taken:
        left = []
        for par in waiting:
            if clusters.leader(par[1]) != clusters.leader(par[2]):
                left.append(par)
            elif not clusters.merge(par[0], par[1]):
                return False
        taken = len(left) < len(waiting)
        waiting = left
    return clusters.parts == 1 and not waiting
