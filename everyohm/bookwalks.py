"""What must hold of a book before its modules can be walked."""

from everyohm.bookkinds import used_by
from everyohm.errors import NotFlat

MOST_FURTHER_MODULES = 8


def require_walkable(book, top):
    """Raise NotFlat if the modules of a book cannot be walked from top."""
    require_names_once(book)
    uses = {name: used_by(items) for _, name, _, items in book}
    if top not in uses:
        raise NotFlat("top", top)
    for name in uses:
        if uses_itself(name, uses):
            raise NotFlat("ring", name)
    if is_deep(top, uses):
        raise NotFlat("deep", top)


def require_names_once(book):
    """Raise NotFlat for the first module that has the name of an earlier one."""
    seen = set()
    for _, name, _, _ in book:
        if name in seen:
            raise NotFlat("twice", name)
        seen.add(name)


def uses_itself(name, uses):
    """Return whether a module uses itself, also through others."""
    reached = []
    level = [name]
    while level != [] and name not in reached:
        level = [used for used in used_by_level(level, uses) if used not in reached]
        reached.extend(level)
    return name in reached


def used_by_level(names, uses):
    """Return the modules of the book that modules with these names use, each once."""
    found = {}
    for name in names:
        for used in uses[name]:
            if used in uses:
                found[used] = True
    return list(found)


def is_deep(top, uses):
    """Return whether uses lead from top through too many further modules."""
    level = [top]
    for _ in range(MOST_FURTHER_MODULES + 1):
        level = used_by_level(level, uses)
    return level != []
