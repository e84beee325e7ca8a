"""Weavings by which a suspect disturbs a run."""

from ownwake.lives import LiveRun
from ownwake.verdicts import is_disturbed


class Staging:
    """A run that is led to where a scene wants it, until it is disturbed; rows are told by their numbers."""

    def __init__(self, scene, database):
        self._scene = scene
        self._run = LiveRun(scene.plan, database)
        self._weaving = []
        self._is_over = False
        # Of each hand the outer row that it fetched last.
        self._outers = []

    def weaving(self, writers, own):
        """The hands in the order in which they stepped; told are the rows of the writers, and of the disturber."""
        if self._scene.plan.hands == "one" or len(own) == 1:
            self._run_on(0)
        else:
            self._stage(writers, own[0])
        return tuple(self._weaving)

    def _stage(self, writers, outer):
        """Let each writer be raised just in time for the match that disturbs, which has this outer row."""
        # Each outer row has a hand of its own, so that a match is raised only when it is its turn.
        if 1 in writers:
            self._fetch_outers(writers[1][0])
            self._let_raise(writers[1])
        if outer is None and self._run.writes != ():
            outer = self._run.writes[-1][2]
        self._fetch_outers(None)
        if 2 in writers:
            self._let_raise(writers[2])
        if outer in self._outers:
            # If it was fetched twice, it has been changed meanwhile, which is what is wanted.
            self._run_on(len(self._outers) - 1 - self._outers[::-1].index(outer))
        while not self._is_over and not self._run.ended:
            for hand in range(len(self._outers) + 1):
                self._run_on(hand)

    def _step(self, hand):
        """The next event of a hand; None if it is idle, or if the run has been disturbed."""
        if self._is_over or self._run.play((hand,)) == 0:
            return None
        self._weaving.append(hand)
        event = self._run.events[-1]
        self._is_over = event[0] == "raise" and is_disturbed(self._run)
        return event

    def _run_on(self, hand):
        """Let a hand step as long as it can."""
        while self._step(hand) is not None:
            pass

    def _fetch_outers(self, number):
        """Let hands that have not stepped fetch an outer row each, until one has fetched this row."""
        event = self._step(len(self._outers))
        while event is not None:
            self._outers.append(event[3])
            event = self._step(len(self._outers)) if event[3] != number else None

    def _let_raise(self, rows):
        """Let the hand that has the outer row of a match step until it has raised it, or has another outer row."""
        if rows[0] not in self._outers:
            return
        hand = self._outers.index(rows[0])
        event = self._step(hand)
        while event is not None and not self._is_raised(event, rows) and event[:3] != ("fetch", hand, 1):
            event = self._step(hand)

    def _is_raised(self, event, rows):
        """Whether the last event has raised the match of these rows."""
        return event[0] == "raise" and [row[0] for row in self._run.writes[-1][1]] == rows
