"""What goes over at a meeting besides words: a string, pages, a right."""

from clankernel.errors import CoreError
from clankernel.items import items_in


def carried_over(scene, sender, receiver):
    """Items go over: how many words of the sender's string came, and how many it has."""
    sent = _rows_told(scene.stand, sender)
    taken = _rows_taken(scene.stand, receiver)
    came = _carry_string(scene, (sender, sent), (receiver, taken))
    window = _row_of(taken, "window")
    if window is not None:
        scene.change_spaces(_spaces_behind(scene.stand, (sender, sent), (receiver, window[1])))
    right, place = _row_of(sent, "right"), _row_of(taken, "place")
    if right is not None and place is not None:
        scene.change_rights(_rights_behind(scene.stand, (sender, right), (receiver, place[1])))
    string = _row_of(sent, "string")
    return came, 0 if string is None else string[2]


def _rows_told(stand, thread):
    """The rows of items that a thread told with its call."""
    return items_in(stand.told_items[thread]) if thread in stand.told_items else ()


def _rows_taken(stand, thread):
    """Rows as a receiver tells them; who faults takes pages alone, and these where it faulted."""
    if thread not in stand.faults:
        return _rows_told(stand, thread)
    fault = stand.faults[thread]
    return (("window", (fault[2] // 16, 1)),) if fault[0] == "page" else ()


def _row_of(rows, kind):
    """The first row of this kind, None without one."""
    for row in rows:
        if row[0] == kind:
            return row
    return None


def _carry_string(scene, sent, taken):
    """A string goes over into a buffer: how many words came. Both are (thread, rows)."""
    string, buffer = _row_of(sent[1], "string"), _row_of(taken[1], "buffer")
    if string is None or buffer is None:
        return 0
    stand = scene.stand
    source, goal = (stand.task_of(sent[0]), string[1]), (stand.task_of(taken[0]), buffer[1])
    came = _copy_words(stand, source, goal, min(string[2], buffer[2]))
    if came > 0:
        scene.happen(("string", sent[0], taken[0], came))
    return came


def _copy_words(stand, source, goal, many):
    """Words are copied one by one, up to the first that cannot be. Source, goal: (task, address)."""
    for done in range(many):
        # Beyond 255 there is no page, so nothing is let there.
        word = stand.word_at(source[0], source[1] + done, "r")
        spot = stand.spot(goal[0], goal[1] + done, "w")
        if word is None or spot is None:
            return done
        stand.write(spot, word)
    return many


def _spaces_behind(stand, sent, taken):
    """The spaces once the pages of (thread, rows) came into the window of (thread, window)."""
    giver, taker = stand.task_of(sent[0]), stand.task_of(taken[0])
    later = stand.spaces
    for row in sent[1]:
        if row[0] == "map":
            later = later.mapped(giver, row[1], taker, taken[1], row[3], row[2])
        if row[0] == "grant":
            later = later.granted(giver, row[1], taker, taken[1], row[3], row[2])
    return later


def _rights_behind(stand, sent, taken):
    """The rights once that of (thread, row) was handed into the place of (thread, place), if it can be."""
    _, place, letters, badge = sent[1]
    try:
        return stand.rights.handed(stand.task_of(sent[0]), place, stand.task_of(taken[0]), taken[1], letters, badge)
    except CoreError:
        return stand.rights
