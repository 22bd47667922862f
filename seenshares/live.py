"""Runs that are under way, made tick by tick."""

from seenshares.errors import BadChoice, NoTicks
from seenshares.kinds import is_flag
from seenshares.runs import MOST_RUN_TICKS, check_phase, record_of
from seenshares.states import look_flags, pair_at


class Mark:
    """Where a profile stood at the head of a block, and the mark of the block around it."""

    def __init__(self, ticks, made, state, outer):
        self.ticks = ticks
        self.made = made
        self.state = state
        self.outer = outer


class Profile:
    """A run under way: the choices that were made, and those that can come next."""

    def __init__(self, program, sampler, *, phase=None):
        check_phase(sampler, phase)
        self.ticks = 0
        self._program = program
        self._sampler = sampler
        self._phase = phase if sampler.phase is None else sampler.phase
        # The list of choices is replaced and never changed, so that a mark can keep it.
        self._made = []
        self._state = None
        self._mark = None

    def __call__(self, choice):
        return self._go_on(choice)

    def __enter__(self):
        self._mark = Mark(self.ticks, self._made, self._state, self._mark)
        return self

    def __exit__(self, kind, value, trace):
        mark = self._mark
        self.ticks = mark.ticks
        self._made = mark.made
        self._state = mark.state
        self._mark = mark.outer

    def choices(self):
        """The choices (move, look) that are possible now."""
        if self.ticks == MOST_RUN_TICKS:
            return []
        flags = look_flags(self._sampler, self._spot(), self._has_come())
        return [(move, due) for move in self._moves() for due in flags]

    def path(self):
        """The choices that were made."""
        return list(self._made)

    def record(self):
        """The record of the run so far."""
        names = [name for name, many in stays_made(self._made) for _ in range(many)]
        return record_of(self._program, names, [due for _, due in self._made])

    def run(self):
        """The run (phase, stays, looks) so far."""
        if self.ticks == 0:
            raise NoTicks()
        return self._phase, stays_made(self._made), looks_made(self._made, self._phase, self._sampler.period)

    def watch(self, choices):
        """Make the tick of each choice when it is asked for, and yield its number and the name of its note or None."""
        for choice in choices:
            noted = self._go_on(choice)
            yield self.ticks - 1, noted

    def trial(self, choices):
        """The record of the run so far with the ticks of these choices, which are taken back."""
        with self:
            for choice in choices:
                self._go_on(choice)
            told = self.record()
        return told

    def _go_on(self, choice):
        """Make one tick, and tell the name of its note or None."""
        if not is_one_of_choices(choice, self.choices()):
            raise BadChoice(self.ticks)
        move, due = choice
        waits = self._state is not None and self._state[4]
        name, spent = (move, 1) if move is not None else (self._state[0], self._state[1] + 1)
        place = self._program[name]
        state, noted = pair_at(place, spent, self._spot(), self._has_come() or due, waits or due)
        self._state = state
        self._made = self._made + [choice]
        self.ticks = self.ticks + 1
        return name if noted else None

    def _moves(self):
        """The moves that are possible now."""
        if self._state is None:
            return [self._program.start]
        name, spent = self._state[:2]
        place = self._program[name]
        moves = [None] if spent < place.most else []
        if spent >= place.least:
            ways = self._program.nexts[name]
            moves.extend([after for after in self._program.names if after in ways])
        return moves

    def _spot(self):
        """The place of the next tick in its slot."""
        return (self._phase + self.ticks) % self._sampler.period

    def _has_come(self):
        """Tell whether the look of the next tick's slot came due ahead of it."""
        if self._state is None:
            return self._phase > self._sampler.jitter
        return self._spot() != 0 and self._state[3]


def is_one_of_choices(choice, choices):
    """Tell whether an object of any kind is one of the choices, and not only equal to one."""
    return isinstance(choice, tuple) and len(choice) == 2 and is_flag(choice[1]) and choice in choices


def stays_made(made):
    """The stays of the choices that were made."""
    stays = []
    for move, _ in made:
        if move is None:
            name, many = stays[-1]
            stays[-1] = (name, many + 1)
        else:
            stays.append((move, 1))
    return stays


def looks_made(made, phase, period):
    """The looks of the choices that were made: for each slot the place at which its look came due, or None."""
    looks = []
    for tick, (_, due) in enumerate(made):
        spot = (phase + tick) % period
        if tick == 0 or spot == 0:
            looks.append(None)
        if due:
            looks[-1] = spot
    return looks
