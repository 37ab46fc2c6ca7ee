"""A bench: a world and its close laying, edited step by step."""

from headamid.edits import edited_all, edited_world, moved_fields
from headamid.errors import NothingMade
from headamid.mends import check_goals, goals_met
from headamid.rings import OddRing, laid_world
from headamid.staying import stayed_laying
from headamid.wholes import tuple_throughout


class Standing:
    """How a bench stands: its world, its laying or None, the edits made, and the number of fields they moved."""

    def __init__(self, world, laying, edits, moved):
        self.world = world
        self.laying = laying
        self.edits = edits
        self.moved = moved


class Bench:
    """A world and a close laying of it, if there is one, with edits that can be taken back."""

    def __init__(self, world):
        self._now = Standing(world, laying_or_none(world), (), 0)
        self._before = []

    @property
    def world_now(self):
        """The world with all edits made."""
        return self._now.world

    @property
    def laying_now(self):
        """A close laying of the world, None if there is none."""
        return self._now.laying

    @property
    def edits_made(self):
        """The edits that are made and not taken back."""
        return self._now.edits

    @property
    def shifts(self):
        """The number of fields that these edits moved."""
        return self._now.moved

    def make_edit(self, edit):
        """Makes an edit; no field is moved if that can be."""
        later = standing_after(self._now, edit)
        self._before.append(self._now)
        self._now = later

    def take_back(self):
        """Takes back the last edit made."""
        if len(self._before) == 0:
            raise NothingMade()
        self._now = self._before.pop()

    def tried_edits(self, edits, goals):
        """Whether the world with these edits more meets all goals, and how many fields they would move."""
        row = check_goals(goals)
        met = goals_met(edited_all(self._now.world, edits), row)
        tried = self._now
        for edit in edits:
            tried = standing_after(tried, edit)
        return met, tried.moved - self._now.moved


def laying_or_none(world):
    """The close laying of laid_world, None if there is none."""
    found = laid_world(world)
    return None if isinstance(found, OddRing) else found


def standing_after(standing, edit):
    """How a bench stands behind an edit."""
    world = edited_world(standing.world, edit)
    edits = standing.edits + (tuple_throughout(edit),)
    if standing.laying is None:
        return Standing(world, laying_or_none(world), edits, standing.moved)
    stayed = stayed_laying(standing.world, standing.laying, edit)
    if stayed is not None:
        return Standing(world, stayed, edits, standing.moved)
    laying = laying_or_none(world)
    moved = 0 if laying is None else len(moved_fields(standing.laying, laying))
    return Standing(world, laying, edits, standing.moved + moved)
