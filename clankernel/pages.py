"""Pages that are held, and what deeds do to them.

Held pages are a dict: of each place that has a frame, but the root's own ones,
(letters, parent), the parent being a place. Deeds tell, besides the pages
behind them, the causes (section 10) by which places may have lost something:
a list of (cause, place).
"""

from clankernel.hot import block_pairs

ALL_LETTERS = "rwx"


def is_letters(value):
    """Whether any value is letters of a page."""
    return type(value) is str and value in ("r", "rw", "rwx", "rx", "w", "wx", "x")


def is_own(frames, place):
    """Whether a place is an own one of the root."""
    return place[0] == 0 and place[1] < frames


def letters_at(frames, held, place):
    """The letters of a place, "" if it has nothing."""
    if is_own(frames, place):
        return ALL_LETTERS
    return held[place][0] if place in held else ""


def chain_of(frames, held, place):
    """The places from one that has a frame up to the root's own one."""
    chain = [place]
    while not is_own(frames, chain[-1]):
        chain.append(held[chain[-1]][1])
    return chain


def places_beneath(held, place):
    found = []
    ahead = [place]
    while ahead:
        above = ahead.pop()
        below = [child for child in held if held[child][1] == above]
        found.extend(below)
        ahead.extend(below)
    return sorted(found)


def common_letters(left, right):
    return "".join([letter for letter in left if letter in right])


def joined_letters(left, right):
    return "".join([letter for letter in ALL_LETTERS if letter in left or letter in right])


def deed_done(frames, held, deed):
    """The held pages behind a right deed of a course, and its causes."""
    later = {place: held[place] for place in held}
    if deed[0] == "unmap":
        task, block, letters, own = deed[1:]
        return later, _unmap(frames, later, (task, block), letters, own)
    giver, block, taker, window, spot, letters = deed[1:]
    causes = []
    for page, to in block_pairs(block, window, spot):
        causes.extend(_give(frames, later, (deed[0], (giver, page), (taker, to), letters)))
    return later, causes


def emptied(held, tasks):
    """The held pages once those of these tasks, and all beneath them, are gone."""
    later = {place: held[place] for place in held}
    for place in held:
        if place[0] in tasks:
            _empty(later, place)
    return later


def _give(frames, held, asked):
    """One pair of a map or a grant: (name, source, target, letters)."""
    name, source, target, letters = asked
    given = common_letters(letters_at(frames, held, source), letters)
    if given == "" or is_own(frames, target) or source == target:
        return []
    moves = name == "grant" and not is_own(frames, source)
    if not moves and target in held and held[target][1] == source:
        held[target] = (joined_letters(held[target][0], given), source)
        return []
    causes = [("window", place) for place in _empty(held, target)]
    # The source itself may have stood beneath the target.
    if letters_at(frames, held, source) == "":
        return causes
    if moves:
        return causes + _move(held, source, target, given)
    held[target] = (given, source)
    return causes


def _move(held, source, target, given):
    causes = [("given", source)]
    letters, parent = held[source]
    if given != letters:
        below = places_beneath(held, source)
        causes.extend([("beneath", place) for place in below])
        _take(held, below, [letter for letter in letters if letter not in given])
    for place in list(held):
        if held[place][1] == source:
            held[place] = (held[place][0], target)
    del held[source]
    held[target] = (given, parent)
    return causes


def _unmap(frames, held, pages, letters, own):
    task, block = pages
    causes = []
    for page in range(block[0], block[0] + block[1]):
        causes.extend([("beneath", place) for place in places_beneath(held, (task, page))])
        if own and not is_own(frames, (task, page)):
            causes.append(("own", (task, page)))
    _take(held, [place for _, place in causes], letters)
    return causes


def _empty(held, place):
    """A place and all beneath it has nothing any more: these places."""
    gone = [place] + places_beneath(held, place)
    for lost in gone:
        held.pop(lost, None)
    return gone


def _take(held, places, letters):
    for place in places:
        if place in held:
            kept = "".join([letter for letter in held[place][0] if letter not in letters])
            if kept == "":
                del held[place]
            else:
                held[place] = (kept, held[place][1])
