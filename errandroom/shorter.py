"""Shorter machines: all passes in turn, over again as long as that makes something fewer."""

from errandroom.joining import joined
from errandroom.merging import merged
from errandroom.pruning import pruned
from errandroom.sharing import shared


def shorter(program, machines, paper):
    before = sizes_of(machines)
    told = all_passes(program, machines, paper)
    while sizes_of(told[0]) != before:
        before = sizes_of(told[0])
        told = all_passes(program, told[0], told[1])
    return told


# No pass makes more rooms or slots, so unlike sizes are fewer ones.
def sizes_of(machines):
    return [(len(machine[3]), machine[2]) for machine in machines]


def all_passes(program, machines, paper):
    told = pruned(program, machines, paper)
    told = joined(program, told[0], told[1])
    told = shared(program, told[0], told[1])
    return merged(program, told[0], told[1])
