"""Cranes: orders in which the joints of a frame can be set, one at a time."""

from standframes.changes import part_load, part_on
from standframes.checks import is_names, joint_names, need_frame, need_joints_there, need_names
from standframes.errors import OutOfBounds
from standframes.frames import need_each_once
from standframes.loads import Load, need_joints_of_load, need_load
from standframes.points import ORIGIN
from standframes.yards import danger, need_rule

MOST_CARRYING = 7
CARRYING_RULES = ("carry", "hold")
BUILDING_RULES = ("carry", "hold", "stand")


def _part_keeps(frame, load, joints, rule):
    """True if the part on these joints, with the load at them, keeps the rule."""
    return danger(part_on(frame, joints), part_load(load, joints), rule) is None


def _is_sound(frame, load, order, rule):
    return all([_part_keeps(frame, load, order[:at + 1], rule) for at in range(len(order))])


def _need_order(frame, load, order):
    """The checks of an order behind the first round."""
    if len(order) != len(frame.joints):
        raise OutOfBounds("order")
    need_each_once(order)
    need_joints_of_load(frame, load)
    need_joints_there(frame, order)


def sound(frame, load, order, *, rule):
    """True if the building order is sound under the rule."""
    need_frame(frame)
    need_load(load)
    need_names(order, "order")
    need_rule(rule, BUILDING_RULES)
    _need_order(frame, load, order)
    return _is_sound(frame, load, order, rule)


def _stands_on(frame, joints):
    return _part_keeps(frame, Load([]), joints, "stand")


def _next_standing(frame, joints):
    """The first joint with which the part on these joints stands, or None."""
    for joint in joint_names(frame):
        if joint not in joints and _stands_on(frame, [*joints, joint]):
            return joint
    return None


def standing_order(frame):
    """("order", joints) in which each part stands, or ("stuck", joints)."""
    need_frame(frame)
    order = []
    joint = _next_standing(frame, order)
    while joint is not None:
        order.append(joint)
        joint = _next_standing(frame, order)
    return ("order" if len(order) == len(frame.joints) else "stuck", order)


def _is_order(frame, value):
    """True if the value is a building order of the frame."""
    return is_names(value) and sorted(value) == sorted(joint_names(frame))


def _is_group(frame, value):
    """True if the value is a list of joints of the frame, each once."""
    return is_names(value) and all([name in frame and value.count(name) == 1 for name in value])


def is_standing_order(frame, answer):
    """True if the answer is a right one of `standing_order`."""
    need_frame(frame)
    if not isinstance(answer, tuple) or len(answer) != 2:
        return False
    word, joints = answer
    if word == "order":
        return _is_order(frame, joints) and _is_sound(frame, Load([]), joints, "stand")
    if word != "stuck" or not _is_group(frame, joints) or len(joints) == len(frame.joints):
        return False
    return _stands_on(frame, joints) and _next_standing(frame, joints) is None


def _check_carrying(frame, load, rule):
    need_frame(frame)
    need_load(load)
    need_rule(rule, CARRYING_RULES)
    if len(frame.joints) > MOST_CARRYING:
        raise OutOfBounds("frame")
    need_joints_of_load(frame, load)


class Parts:
    """The parts of a frame, each on a group: a tuple of joints in the order of the frame."""

    def __init__(self, frame, load, rule):
        self.whole = frame
        self.weight = load
        self.found = {}
        self.demand = rule

    def allowed(self, group):
        """True if the part on the group keeps the rule."""
        if group not in self.found:
            self.found[group] = _part_keeps(self.whole, self.weight, list(group), self.demand)
        return self.found[group]

    def next_groups(self, group):
        """For each joint that is not in the group, the joint and the group with it."""
        names = joint_names(self.whole)
        return [
            (joint, tuple([name for name in names if name in group or name == joint]))
            for joint in names if joint not in group
        ]


def _last_set(parts, everything):
    """For each group that a crane can set, until it has set everything, the joint that it set last."""
    last = {(): None}
    waiting = [()]
    while waiting and everything not in last:
        group = waiting.pop()
        for joint, more in parts.next_groups(group):
            if more not in last and parts.allowed(more):
                last[more] = joint
                waiting.append(more)
    return last


def carrying_order(frame, load, *, rule="carry"):
    """("order", joints) in which each part carries, or holds, its load, or ("stuck", groups)."""
    _check_carrying(frame, load, rule)
    everything = tuple(joint_names(frame))
    last = _last_set(Parts(frame, load, rule), everything)
    if everything not in last:
        return ("stuck", [list(group) for group in last])
    order = []
    group = everything
    while group:
        joint = last[group]
        order.append(joint)
        group = tuple([name for name in group if name != joint])
    return ("order", order[::-1])


def _are_groups(frame, value):
    """True if the value is a list of groups, none twice, with the empty one and without that of all joints."""
    if not isinstance(value, list) or not all([is_names(group) for group in value]):
        return False
    names = joint_names(frame)
    if any([group != [name for name in names if name in group] for group in value]):
        return False
    return all([value.count(group) == 1 for group in value]) and [] in value and names not in value


def _is_closed(parts, groups):
    """True if no crane can set a further joint that leads from one of these groups to another one."""
    known = {group: True for group in groups}
    return all([
        more in known or not parts.allowed(more) for group in groups for _, more in parts.next_groups(group)
    ])


def is_carrying_order(frame, load, answer, *, rule="carry"):
    """True if the answer is a right one of `carrying_order`."""
    _check_carrying(frame, load, rule)
    if not isinstance(answer, tuple) or len(answer) != 2:
        return False
    word, told = answer
    if word == "order":
        return _is_order(frame, told) and _is_sound(frame, load, told, rule)
    if word != "stuck" or not _are_groups(frame, told):
        return False
    return _is_closed(Parts(frame, load, rule), [tuple(group) for group in told])


def _links_back(frame, joint, before):
    """The bars from the joint to those before it, as they stand in a deed."""
    links = []
    for bar, one, other, role in frame.bars:
        if one == joint and other in before:
            links.append((bar, other, role))
        elif other == joint and one in before:
            links.append((bar, one, role))
    return tuple(links)


def order_deeds(frame, load, order):
    """The deeds that build the frame, with the load, in this order."""
    need_frame(frame)
    need_load(load)
    need_names(order, "order")
    _need_order(frame, load, order)
    deeds = []
    for at, joint in enumerate(order):
        x, y = frame.place(joint)
        deeds.append(("joint", joint, x, y, frame.across(joint), _links_back(frame, joint, order[:at])))
        along, up = load.force(joint)
        if (along, up) != ORIGIN:
            deeds.append(("load", joint, along, up))
    return deeds
