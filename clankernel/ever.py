"""What can ever be had, whatever programs do: deeds that lead there, or a closed table."""

from clankernel.checks import is_tuple_of
from clankernel.havings import Realm, add_letters, has_letters, havings_of, table_of


def ever(rights, clans, spaces, free, task, thing, letters):
    realm = _realm_asked((rights, clans, spaces), free, task, thing, letters)
    havings = realm.first_havings()
    deeds = realm.grow(free, havings)
    if not has_letters(havings[task], thing, letters):
        return ("never", table_of(havings))
    had = realm.first_havings()
    for many, deed in enumerate(deeds):
        if has_letters(had[task], thing, letters):
            return ("deeds", tuple(deeds[:many]))
        add_letters(had[deed[2]], deed[3], deed[4])
    return ("deeds", tuple(deeds))


def shows_ever(rights, clans, spaces, free, task, thing, letters, value):
    realm = _realm_asked((rights, clans, spaces), free, task, thing, letters)
    if not is_tuple_of(value, 2):
        return False
    if value[0] == "deeds":
        return _leads(realm, free, value[1], (task, thing, letters))
    if value[0] != "never" or not realm.is_table(value[1]):
        return False
    havings = havings_of(value[1])
    return realm.is_closed(free, havings) and not has_letters(havings[task], thing, letters)


def reach(rights, clans, spaces, free):
    realm = Realm(rights, clans, spaces)
    realm.check_lot(free)
    return table_of(_grown(realm, free))


def helpers(rights, clans, spaces, free, task, thing, letters):
    realm = _realm_asked((rights, clans, spaces), free, task, thing, letters)
    if not has_letters(_grown(realm, free)[task], thing, letters):
        return ()
    lots = [(helper, tuple([other for other in free if other != helper])) for helper in free]
    return tuple([helper for helper, lot in lots if not has_letters(_grown(realm, lot)[task], thing, letters)])


def _realm_asked(worlds, free, task, thing, letters):
    rights, clans, spaces = worlds
    realm = Realm(rights, clans, spaces)
    realm.check_lot(free)
    realm.check_task(task)
    realm.check_thing(thing, letters)
    return realm


def _grown(realm, free):
    """What tasks can ever have."""
    havings = realm.first_havings()
    realm.grow(free, havings)
    return havings


def _leads(realm, free, deeds, asked):
    """Whether any value is deeds, each of which can be at its turn, behind which a task has what is asked."""
    if type(deeds) is not tuple:
        return False
    task, thing, letters = asked
    havings = realm.first_havings()
    for deed in deeds:
        if not realm.can_be(free, havings, deed):
            return False
        add_letters(havings[deed[2]], deed[3], deed[4])
    return has_letters(havings[task], thing, letters)
