"""Goals of a world, and the least parts of a pool of edits that reach them or spoil them."""

from headamid.definers import two_answers
from headamid.edits import edit_fault, edited_world, is_edit
from headamid.errors import BadGoals, BadPool, TooMany
from headamid.floors import is_within, lots_by_length
from headamid.rings import settled_sides
from headamid.stretches import is_barred
from headamid.tables import entry_world
from headamid.wholes import is_sequence, is_unlike_row

GOALS = ("close", "table", "clear", "row")
MOST_GOALS = 4
MOST_EDITS = 6
MOST_FOR_ROW_GOAL = 6


def check_goals(goals):
    """Returns the goals as a tuple if they are unlike words, one to four."""
    if not is_sequence(goals) or len(goals) == 0 or len(goals) > MOST_GOALS:
        raise BadGoals(0)
    found = []
    for index, goal in enumerate(goals):
        if not isinstance(goal, str) or goal not in GOALS or goal in found:
            raise BadGoals(index)
        found.append(goal)
    return tuple(found)


def check_goal_bound(goals, count):
    """Raises TooMany if "row" is among the goals and there are too many classes for it."""
    if "row" in goals and count > MOST_FOR_ROW_GOAL:
        raise TooMany(count)


def goals_met(world, goals):
    """Whether the world meets all goals."""
    row = check_goals(goals)
    check_goal_bound(row, len(world.classes))
    return all([meets_goal(world, goal) for goal in row])


def meets_goal(world, goal):
    """Whether the world meets one goal."""
    if goal == "close":
        return settled_sides(world) is not None
    if goal == "table":
        return settled_sides(entry_world(world)) is not None
    if goal == "clear":
        return len(two_answers(world)) == 0
    return not is_barred(world, list(range(len(world.classes))))


def check_pool(pool):
    """Raises BadPool if this is no sequence of one to six things that have the forms of edits."""
    if not is_sequence(pool) or len(pool) == 0 or len(pool) > MOST_EDITS:
        raise BadPool(0)
    for index, edit in enumerate(pool):
        if not is_edit(edit):
            raise BadPool(index)


def check_task(world, pool, goals):
    """Returns the goals as a tuple if pool, goals and world can be gone through."""
    check_pool(pool)
    row = check_goals(goals)
    check_goal_bound(row, len(world.classes) + len([edit for edit in pool if edit[0] == "class"]))
    return row


def part_worlds(world, pool):
    """For each part of the pool, the shorter ones first, its world, or None if it cannot be made."""
    worlds = {(): world}
    for part in lots_by_length(len(pool))[1:]:
        worlds[part] = world_after(worlds[part[:-1]], pool[part[-1]])
    return worlds


def world_after(world, edit):
    """The world after an edit, None if there is no world or it refuses the edit."""
    if world is None or edit_fault(world, edit) is not None:
        return None
    return edited_world(world, edit)


def least_parts(worlds, goals, wanted):
    """The parts whose worlds meet the goals as wanted and that hold no other such part, the shorter ones first."""
    found = []
    for part, world in worlds.items():
        if world is not None and not any([is_within(elder, part) for elder in found]):
            if goals_met(world, goals) == wanted:
                found.append(part)
    return tuple(found)


def find_mends(world, pool, goals):
    """The least parts of the pool by which the world meets all goals: by length, then ascending."""
    row = check_task(world, pool, goals)
    return least_parts(part_worlds(world, pool), row, True)


def find_spoilers(world, pool, goals):
    """The least parts of the pool by which the world does not meet all goals: by length, then ascending."""
    row = check_task(world, pool, goals)
    return least_parts(part_worlds(world, pool), row, False)


def mend_fault(world, pool, goals, mend):
    """None if this is a mend, otherwise the word for its fault."""
    row = check_task(world, pool, goals)
    if not is_unlike_row(mend, len(pool)) or list(mend) != sorted(mend):
        return "form"
    part = tuple(mend)
    worlds = part_worlds(world, pool)
    if worlds[part] is None:
        return "edit"
    if not goals_met(worlds[part], row):
        return "goal"
    within = {other: worlds[other] for other in worlds if is_within(other, part)}
    return None if least_parts(within, row, True) == (part,) else "spare"
