"""With which row somebody would have to come for a wanted row to come about."""

from wapentake.errors import Borne
from wapentake.fills import lacks
from wapentake.oaths import hold_all, links
from wapentake.states import check_kept, check_person, standing_oaths


def newcomer(assembly, name, wanted):
    """The row nearest to somebody's by which, if another came with it, a wanted row would come about."""
    check_person(assembly.now, name)
    missing = lacks(assembly.now.table, wanted)
    if not missing:
        raise Borne()
    check_kept(assembly.now, wanted)
    # A newcomer gives the wanted answers to all that is lacking, and whatever the oaths lead to from these. With the
    # other answers as somebody gives them who keeps the oaths, the newcomer keeps them, too.
    given = [(question, wanted[question]) for pair in missing for question in pair]
    held = hold_all(links(standing_oaths(assembly.now)), assembly.questions, given)
    return "".join([sign if mark == "-" else mark for mark, sign in zip(held, assembly.now.people[name])])
