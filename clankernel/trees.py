"""What came of what: pages, those above and beneath them, and who has a frame."""

from clankernel.checks import is_tuple_of, is_within
from clankernel.errors import NoFrame, NoPage, NoTask, OtherPages
from clankernel.pages import ALL_LETTERS, chain_of, places_beneath
from clankernel.spaces import Spaces


def page_at(spaces, task, page):
    place = _place(spaces, task, page)
    if place not in spaces:
        return None
    return (spaces.frame_of(place), spaces.letters_of(place))


def page_chain(spaces, task, page):
    place = _place(spaces, task, page)
    if place not in spaces:
        return ()
    return tuple(chain_of(spaces.frames, spaces.held, place))


def page_beneath(spaces, task, page):
    return tuple(places_beneath(spaces.held, _place(spaces, task, page)))


def page_holders(spaces, frame):
    if not is_within(frame, 0, spaces.frames - 1):
        raise NoFrame(frame)
    holders = [(task, page, letters) for task, page, has, letters in spaces.pages if has == frame]
    return tuple(sorted([(0, frame, ALL_LETTERS)] + holders))


def told_apart(one, other):
    _check_pages(one, other)
    if one.text == other.text:
        return ("same",)
    for task in range(one.tasks):
        for page in range(16):
            letters = _letters_apart(one, other, (task, page))
            if letters:
                return ("unmap", task, page, letters[0])
    # With the same pages, some page has a place above it in the one alone.
    assert False


def shows_told_apart(one, other, value):
    _check_pages(one, other)
    if is_tuple_of(value, 1):
        return value[0] == "same" and one.text == other.text
    if not is_tuple_of(value, 4) or value[0] != "unmap":
        return False
    _, task, page, letter = value
    if not one.has_task(task) or not is_within(page, 0, 15):
        return False
    return letter in _letters_apart(one, other, (task, page))


def _place(spaces, task, page):
    if not spaces.has_task(task):
        raise NoTask(task)
    if not is_within(page, 0, 15):
        raise NoPage(page)
    return (task, page)


def _check_pages(one, other):
    if not isinstance(other, Spaces) or one.frames != other.frames:
        raise OtherPages(other)
    if one.tasks != other.tasks or one.pages != other.pages:
        raise OtherPages(other)


def _letters_apart(one, other, place):
    """The letters of which different places lose one, if this place is unmapped by it."""
    below = places_beneath(one.held, place)
    others = places_beneath(other.held, place)
    return [letter for letter in ALL_LETTERS
            if _losing(one, below, letter) != _losing(other, others, letter)]


def _losing(spaces, places, letter):
    return [place for place in places if letter in spaces.letters_of(place)]
