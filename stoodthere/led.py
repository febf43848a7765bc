"""Leading a learner to the end."""

from stoodthere.basics import need
from stoodthere.making import takes
from stoodthere.teachers import Teacher


def can_lead(learner, teacher):
    """Whether teacher, which may be any value, is a teacher that would have answered as learner was answered."""
    if not isinstance(teacher, Teacher) or teacher.book != learner.book:
        return False
    right = learner.told_trees() + learner.yeses()
    if not all([takes(teacher.fair, tree) for tree in right]):
        return False
    return not any([takes(teacher.fair, tree) for tree in learner.noes()])


def led_on(learner, teacher):
    """Tells learner what teacher replies until it has ended; returns the last grammar proposed."""
    need(can_lead(learner, teacher), "teacher")
    want = learner.wants()
    while want[0] != "done":
        learner.told(teacher.reply(want))
        want = learner.wants()
    return want[1]
