"""Which workers have branches, and which ones they have."""

BRANCHED = ("both", "meet")


def branch_count(name):
    """How many branches a worker of this name has."""
    return 2 if name in BRANCHED else 0


def branches_of(worker):
    """The branches P and Q of a both or meet; of other workers none."""
    # They stand last in both of these workers.
    return worker[-2:] if worker[0] in BRANCHED else ()
