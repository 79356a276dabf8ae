"""Threads that hang on one another: they wait for one, or their call is served by it."""


def chains_on(hangs, thread):
    """A chain from a thread to each one that hangs on it, by any steps, itself too.

    Hangs tell of each thread that hangs on another one on which; each next one
    of a chain hangs on the one ahead of it.
    """
    chains = [(thread,)]
    at = 0
    while at < len(chains):
        for other in hangs:
            # Each thread hangs on one at the most, so only the first one can come again.
            if hangs[other] == chains[at][-1] and other != thread:
                chains.append((*chains[at], other))
        at = at + 1
    return chains


def lent_priority(own, hangs, thread):
    """The greatest own priority of a thread and of all that hang on it."""
    return max([own[chain[-1]] for chain in chains_on(hangs, thread)])


def payer_chain(callers, thread):
    """The threads from one on to its payer, each next one calling the one ahead of it."""
    chain = [thread]
    while chain[-1] in callers:
        if callers[chain[-1]] == thread:
            # The chain goes round: who runs pays itself.
            return (thread,)
        chain.append(callers[chain[-1]])
    return tuple(chain)
