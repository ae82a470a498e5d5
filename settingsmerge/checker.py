"""Checks of papers and journals, which may be any objects [2, 13, 21, 22]."""

from settingsmerge.conflicts import is_cover, is_matching
from settingsmerge.ends import parting_papers
from settingsmerge.errors import BadAnswer, BadEdit, BadText, Excluded, NoRelease, NoRule, NoSlot, NotOwn, Unanswered
from settingsmerge.files import is_name
from settingsmerge.history import is_number_below, is_tuple_of
from settingsmerge.installation import Installation


def shows_parting(history, state, walk, paper):
    """Whether any object is a parting paper of the walk."""
    if paper not in parting_papers(history, state, walk):
        return False
    # In Python 1 equals True, but it is no answer.
    return all([isinstance(stands, bool) for answers in paper[1] for stands in answers])


def shows_fewest(merge, paper):
    """Whether any object is a tuple of a cover and a matching, of the same size, of the conflicts that are left."""
    left = merge.conflicts
    if not is_tuple_of(paper, 2) or not is_cover(left, paper[0]) or not is_matching(left, paper[1]):
        return False
    return len(paper[0]) == len(paper[1])


def is_scope(box, thing):
    """Whether any object is a scope for which the installation can make a rule now."""
    if not is_tuple_of(thing, 2):
        return False
    kind, named = thing
    if kind == "section":
        return is_name(named)
    if kind == "setting":
        # A rule for a setting is made by its place, so the present release has it.
        slots = box.history.slots
        return is_number_below(named, slots) and box.history.place_of(named, box.state.release) is not None
    return thing == ("all", "")


def is_deed(box, thing):
    """Whether any object has the form of a deed that the installation may do now."""
    if is_tuple_of(thing, 2):
        return thing[0] == "edit" or thing[0] == "follow"
    if is_tuple_of(thing, 3):
        if thing[0] == "rule":
            return is_scope(box, thing[2])
        return thing[0] == "jump" and isinstance(thing[2], tuple)
    return False


def repeats(box, thing):
    """Whether any object is a deed that the installation can do now; if so, it has done it."""
    if not is_deed(box, thing):
        return False
    try:
        box.repeat(thing)
    except (BadAnswer, BadEdit, BadText, Excluded, NoRelease, NoRule, NoSlot, NotOwn, Unanswered):
        return False
    # A jump does not look at answers that it does not need, but its deed has only those that it used.
    return box.journal()[-1] == thing


def shows_journal(history, journal, text, *, release=0):
    """Whether any object is the journal of an installation that has this text, which may be any object, too."""
    if not isinstance(journal, list) or not is_number_below(release, len(history)):
        return False
    box = Installation(history, release)
    for thing in journal:
        if not repeats(box, thing):
            return False
    return box.text == text
