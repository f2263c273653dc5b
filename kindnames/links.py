"""Links (mark, from, to) and the rows of them that lead from one thing to another."""


def chains(links, start):
    """A dict from all things to which links lead from start to shortest rows of links, start among them."""
    onward = {}
    for link in links:
        onward.setdefault(link[1], []).append(link)
    rows = {start: []}
    waiting = [start]
    while waiting:
        at = waiting.pop(0)
        for link in onward.get(at, []):
            if link[2] not in rows:
                rows[link[2]] = rows[at] + [link]
                waiting.append(link[2])
    return rows


def chain(links, start, goal):
    """A shortest row of links that leads from start to goal, None where none does."""
    return chains(links, start).get(goal)
