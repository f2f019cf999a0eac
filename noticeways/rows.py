"""How the signs of a notice form a row, without regard to what they mean."""

JOINTS = ("and", "or", "unless", "onlyif")


def is_row(signs):
    """Whether signs, each a clause or a word of a notice, form a row."""
    depth = 0
    part_due = True
    for sign in signs:
        if sign == "(" and part_due:
            depth = depth + 1
        elif sign == ")" and not part_due and depth > 0:
            depth = depth - 1
        elif sign in JOINTS and not part_due:
            part_due = True
        elif isinstance(sign, tuple) and part_due:
            part_due = False
        elif sign != "not" or not part_due:
            return False
    return depth == 0 and not part_due


def joint_places(signs):
    """The indices of all joints of a row that are not within brackets."""
    found = []
    depth = 0
    for at, sign in enumerate(signs):
        if sign == "(":
            depth = depth + 1
        elif sign == ")":
            depth = depth - 1
        elif depth == 0 and sign in JOINTS:
            found.append(at)
    return found


def is_bracketed(signs):
    """Whether a row is wholly within one pair of brackets."""
    # Without a joint outside of brackets a row is one part, so that the
    # bracket it begins with is shut by the last sign, not by an earlier one.
    return signs[0] == "(" and not joint_places(signs)
