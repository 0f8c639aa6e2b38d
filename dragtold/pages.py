"""Pages: trees of elements.

A page is a tuple that has for each number of an element the number of the
element that it is directly in. It is None for the root, and for an element
that was removed: so what was within that one leads no longer to the root.
"""

from dragtold.checks import is_number_below

ROOT = 0
ZONE = 1
FIRST_PAGE = (None, 0)


def is_within(page, element, other):
    """Whether an element is another one, or in it, directly or not."""
    while element is not None:
        if element == other:
            return True
        element = page[element]
    return False


def is_there(page, element):
    return is_number_below(element, len(page)) and is_within(page, element, ROOT)


def is_movable(page, element):
    return is_there(page, element) and element not in (ROOT, ZONE)


def side_of(page, element):
    if not is_there(page, element):
        return "gone"
    if element == ZONE:
        return "zone"
    if is_within(page, element, ZONE):
        return "inside"
    return "outside"


def is_possible_change(page, change):
    """Whether a change, a tuple of the right length, is possible on a page."""
    name = change[0]
    if name == "add":
        return is_there(page, change[1])
    if name == "remove":
        return is_movable(page, change[1])
    _, element, parent = change
    return is_movable(page, element) and is_there(page, parent) and not is_within(page, parent, element)


def changed(page, change):
    """The page behind a change that is possible."""
    name = change[0]
    if name == "add":
        return (*page, change[1])
    if name == "remove":
        return put_into(page, change[1], None)
    return put_into(page, change[1], change[2])


def put_into(page, element, parent):
    return page[:element] + (parent,) + page[element + 1:]
