"""Rights, clans and spaces of the same tasks, as the tests of what can ever be want them."""

from clankernel.clans import Clans
from clankernel.rights import Rights
from clankernel.spaces import Spaces


def random_worlds(rng, tasks=None):
    many = tasks or rng.randint(2, 5)
    chiefs = [None] + [rng.randrange(task) for task in range(1, many)]
    lines = [f"task {task} {'-' if chief is None else chief} {rng.choice(['border', 'none'])}" for task, chief in enumerate(chiefs)]
    clans = Clans("\n".join([f"clans {many}"] + lines))
    owners = [rng.randrange(many) for _ in range(rng.randint(1, 4))]
    rows, places = [], set()
    for number in range(rng.randint(0, 7)):
        task, place = rng.randrange(many), rng.randrange(16)
        parents = [row for row in rows if "g" in row[4]]
        if (task, place) in places:
            continue
        places.add((task, place))
        if parents and rng.random() < 0.4:
            parent = rng.choice(parents)
            thing, letters, came = parent[3], rng.choice([parent[4], parent[4][0]]), parent[0]
        else:
            thing = rng.choice([f"g{gate}" for gate in range(len(owners))] * 3 + [f"t{other}" for other in range(many)])
            letters, came = rng.choice(["sg", "s"] if thing[0] == "g" else ["cg", "c"]), "-"
        rows.append((number, task, place, thing, letters, "-", came))
    lines = [f"tasks {many}"] + [f"gate {owner}" for owner in owners] + ["next 9"]
    rights = Rights("\n".join(lines + ["right " + " ".join(map(str, row)) for row in rows]))
    spaces = Spaces(f"frames {rng.randint(1, 2)}\ntasks {many}")
    for _ in range(rng.randint(0, 4)):
        giver, taker = rng.randrange(many), rng.randrange(many)
        spaces = spaces.mapped(giver, (rng.randrange(3), 1), taker, (rng.randrange(3), 1), 0, rng.choice(["r", "rw", "rwx", "x", "w"]))
    return rights, clans, spaces


def had_now(rights, spaces):
    """What tasks have, as sets of (task, thing or frame, one letter)."""
    found = {(row[1], row[3], letter) for row in rights.rows for letter in row[4]}
    found |= {(0, frame, letter) for frame in range(spaces.frames) for letter in "rwx"}
    return found | {(page[0], page[2], letter) for page in spaces.pages for letter in page[3]}


def linked_by(rights, clans, free, had):
    """Which tasks are linked, word for word as the document tells it."""
    from clankernel.ways import way
    pairs = set()
    for task in free:
        for gate, owner in enumerate(rights.gates):
            if (task, f"g{gate}", "s") not in had:
                continue
            comes = [task]
            stops = way(clans, task, owner)
            for at, stop in enumerate(stops):
                if stop not in free or (at < len(stops) - 1 and not clans.has_border(stop)):
                    break
                comes.append(stop)
            pairs |= {(one, other) for one, other in zip(comes, comes[1:]) if one != other}
    return pairs | {(other, one) for one, other in pairs}


def had_ever(rights, clans, spaces, free):
    """What tasks can ever have: letter by letter, until nothing comes any more."""
    had = had_now(rights, spaces)
    while True:
        more = set()
        for one, other in linked_by(rights, clans, free, had):
            for task, thing, letter in had:
                if task == one and (type(thing) is int or (one, thing, "g") in had):
                    more.add((other, thing, letter))
        if more <= had:
            return had
        had |= more


def table_by(rights, spaces, had):
    """The table that tells these."""
    things = sorted([f"g{gate}" for gate in range(len(rights.gates))] + [f"t{task}" for task in range(rights.tasks)])
    rows = []
    for task in range(rights.tasks):
        told = [(thing, "".join(letter for letter in "scg" if (task, thing, letter) in had)) for thing in things]
        pages = [(frame, "".join(letter for letter in "rwx" if (task, frame, letter) in had)) for frame in range(spaces.frames)]
        rows.append((tuple(row for row in told if row[1]), tuple(row for row in pages if row[1])))
    return tuple(rows)
