"""The thresholds R(k): what k senders need together so that none of them stalls."""


def thresholds(count, budget):
    """Return the tuple of R(1) to R(count)."""
    found = []
    reached = 0
    for size in range(count):
        # R(1) is the budget alone: nothing is divided by size 0.
        share = (reached - 1) // size if size > 0 else 0
        reached += budget + share
        found.append(reached)
    return tuple(found)


def threshold(size, budget):
    """Return R(size)."""
    if size == 0:
        return 0
    return thresholds(size, budget)[-1]


def steps(count, budget):
    """Return the tuple of the differences R(k) - R(k - 1) for k from 1 to count."""
    after = thresholds(count, budget)
    before = (0, *after)
    return tuple([high - low for low, high in zip(before, after)])


def least_equal(count, budget):
    """Return the least balance with which count senders that all have it are safe."""
    # The steps never fall, so their average R(k) / k does not fall either:
    # what is enough for all senders is enough for fewer of them.
    return (threshold(count, budget) - 1) // count + 1
