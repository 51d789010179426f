"""Papers: one small deed with the words that it opens, looked at without opening a stand."""

from stepcourt.deeds import needed_by, writes_by
from stepcourt.layout import Layout, depth_of
from stepcourt.partial import comes_to, comes_to_with
from stepcourt.trees import path_in


def paths_opened(house, case, seal):
    """The paths that the deed next at a seal opens, in order, up to one that isn't opened."""
    layout = Layout(case[0])
    depth = depth_of(case[0])
    known = {}
    paths = []
    k = needed_by(layout, known)
    while k is not None:
        path = path_in(house, seal, depth, k)
        if path is None:
            return tuple(paths)
        known[k] = path[0]
        paths.append((k, path[0], path[1]))
        k = needed_by(layout, known)
    return tuple(paths)


def paper_from(house, case, seal, paths):
    """The paper of the deed next at a seal that opens these paths; None where one lacks or it can't be done."""
    known = dict([(path[0], path[1]) for path in paths])
    writes = writes_by(Layout(case[0]), known)
    if writes is None:
        return None
    return (seal, paths, comes_to_with(house, depth_of(case[0]), paths, writes))


def paper_of(house, case, seal):
    """The paper of the deed that is next at a seal; None where a word isn't opened or it can't be done."""
    return paper_from(house, case, seal, paths_opened(house, case, seal))


def paper_holds(house, case, paper):
    """Whether a paper holds for a case."""
    before, paths, after = paper
    depth = depth_of(case[0])
    # Ahead of the deed, for only words of paths that come to a seal are sure to be words.
    if comes_to(house, depth, paths) != before:
        return False
    layout = Layout(case[0])
    known = {}
    for k, word, siblings in paths:
        if needed_by(layout, known) != k:
            return False
        known[k] = word
    writes = writes_by(layout, known)
    return writes is not None and comes_to_with(house, depth, paths, writes) == after
