"""The four ways by their names: what each tells for calls, and the paper that it writes of it."""

from surecall.flows import apart_paper, by_apart, by_flow, flow_paper
from surecall.makes import by_made, made_paper
from surecall.trees import by_tree

WAYS = ("tree", "made", "flow", "apart")


def paper(program, way, there):
    """The way's paper; the tree way needs none, so that its is ()."""
    if way == "tree":
        return ()
    if way == "made":
        return made_paper(program, there)
    if way == "flow":
        return flow_paper(program, there)
    return apart_paper(program, there)


def told(program, way, there):
    """Of each call (number, kinds), by the way."""
    if way == "tree":
        return by_tree(program, there)
    if way == "made":
        return by_made(program, there)
    if way == "flow":
        return by_flow(program, there)
    return by_apart(program, there)
