"""Going through all that can come, and finding the least row of labels that leads somewhere."""

from keptacross.errors import TooMany


def explored(starts, steps_from, most, word):
    """The numbers of all nodes that can come from the starts, in the order in which they are found.

    steps_from tells the steps from a node: tuples whose last member is the node behind it. Told besides are the steps
    of each node, with numbers in the place of nodes, and by which step of which node each is first come to.
    """
    nodes = list(starts)
    numbers = {node: number for number, node in enumerate(nodes)}
    arrivals = [None] * len(nodes)
    follows = []
    while len(follows) < len(nodes):
        here = nodes[len(follows)]
        follow = []
        for step in steps_from(here):
            node = step[-1]
            if node not in numbers:
                if len(nodes) >= most:
                    raise TooMany(word)
                numbers[node] = len(nodes)
                nodes.append(node)
                arrivals.append((len(follows), len(follow)))
            follow.append((*step[:-1], numbers[node]))
        follows.append(tuple(follow))
    return numbers, follows, arrivals


def arrived(follows, arrivals, number):
    """The steps by which a node is first come to."""
    steps = []
    while arrivals[number] is not None:
        number, place = arrivals[number]
        steps.append(follows[number][place])
    return steps[::-1]


def labels_back(node, arrivals):
    """The labels that lead to a node, if for each node the one ahead of it and the label are told."""
    labels = []
    while arrivals[node] is not None:
        node, label = arrivals[node]
        labels.append(label)
    return tuple(labels[::-1])


def least_row(start, steps_from, is_goal):
    """The least row of labels that leads from a node to a goal, None if there is none.

    steps_from tells the pairs of a label and the node behind it, with different labels, ascending.
    """
    nodes = [start]
    arrivals = {start: None}
    at = 0
    while at < len(nodes):
        here = nodes[at]
        if is_goal(here):
            return labels_back(here, arrivals)
        for label, node in steps_from(here):
            if node not in arrivals:
                arrivals[node] = (here, label)
                nodes.append(node)
        at += 1
    return None


def reaching(follows, goals):
    """For each number, whether some steps lead from it to a goal, in no or more steps."""
    behind = [[] for _ in follows]
    for number, follow in enumerate(follows):
        for step in follow:
            behind[step[-1]].append(number)
    live = [False] * len(follows)
    waiting = []
    for goal in goals:
        live[goal] = True
        waiting.append(goal)
    while len(waiting) > 0:
        here = waiting.pop()
        for number in behind[here]:
            if not live[number]:
                live[number] = True
                waiting.append(number)
    return live
