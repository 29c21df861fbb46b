"""Rows of deeds between numbered nodes. Steps are a dict from each node to its list of pairs (deed, node behind)."""


def earlier_nodes(steps):
    """Return a dict from each node to the list of the nodes with a step to it, one for each step."""
    earlier = {at: [] for at in steps}
    for at in steps:
        for _, there in steps[at]:
            earlier[there].append(at)
    return earlier


def leading_to(steps, goals):
    """Return a dict with True for the nodes from which rows of steps lead to one of the goals."""
    earlier = earlier_nodes(steps)
    leading = {goal: True for goal in goals}
    waiting = list(goals)
    while waiting:
        there = waiting.pop()
        for at in earlier[there]:
            if at not in leading:
                leading[at] = True
                waiting.append(at)
    return leading


def within(steps, nodes):
    """Return the steps between the nodes alone."""
    return {at: [(deed, there) for deed, there in steps[at] if there in nodes] for at in nodes}


def shortest_row(steps, start, goals):
    """Return the pair of the deeds of a shortest row from a node to one of the goals, and this goal.

    Some row must lead there.
    """
    rows = {start: []}
    nodes = [start]
    turn = 0
    while nodes[turn] not in goals:
        at = nodes[turn]
        for deed, there in steps[at]:
            if there not in rows:
                rows[there] = rows[at] + [deed]
                nodes.append(there)
        turn += 1
    return rows[nodes[turn]], nodes[turn]


class Maze:
    """Nodes from each of which some row of deeds leads to an end, and how many deeds of such a row count at most.

    ends has for some nodes the list of the deeds that lead from there to an end at once. A deed counts if it begins
    with the given items. Some deed of each ring must count: so there is no greatest number where rows lead to a ring.
    """

    def __init__(self, steps, ends, counted):
        self._steps = steps
        self._ends = ends
        self._counted = counted
        self._most = {at: None for at in steps}
        self._measure()

    def _measure(self):
        earlier = earlier_nodes(self._steps)
        left = {at: len(self._steps[at]) for at in self._steps}
        ready = [at for at in left if left[at] == 0]
        while ready:
            there = ready.pop()
            self._most[there] = self._best(there)[0]
            for at in earlier[there]:
                left[at] -= 1
                if left[at] == 0:
                    ready.append(at)

    def _best(self, at):
        """Return the tuple (how many count, deeds, node behind or None) of a node whose steps are measured."""
        choices = [(self._most[there] + self._count([deed]), [deed], there) for deed, there in self._steps[at]]
        if at in self._ends:
            choices.append((self._count(self._ends[at]), self._ends[at], None))
        return max(choices, key=lambda choice: choice[0])

    def _count(self, deeds):
        many = len(self._counted)
        return len([deed for deed in deeds if deed[:many] == self._counted])

    def greatest(self, at):
        """Return how many deeds count at most in a row from a node to an end, or None if there is no such number."""
        return self._most[at]

    def longest_row(self, at):
        """Return the list of the deeds of a row in which most deeds count, from a node that has such a number."""
        row = []
        while at is not None:
            _, deeds, at = self._best(at)
            row = row + deeds
        return row

    def ring(self, at):
        """Return a node on a ring and the list of the deeds around it; rows lead there from the given node."""
        turns = {}
        deeds = []
        while at not in turns:
            turns[at] = len(deeds)
            deed, at = self._step_to_ring(at)
            deeds.append(deed)
        return at, deeds[turns[at]:]

    def _step_to_ring(self, at):
        steps = [(deed, there) for deed, there in self._steps[at] if self._most[there] is None]
        return steps[0]
