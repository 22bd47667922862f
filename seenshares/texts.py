"""Programs with samplers, and runs, as texts."""

from seenshares.errors import BadPlace, BadRun, BadSampler, BadText
from seenshares.kinds import has_twins, is_integer_from, is_name
from seenshares.programs import MOST_PLACES, MOST_TICKS, Place, Program
from seenshares.runs import MOST_RUN_TICKS
from seenshares.samplers import MOST_PERIOD, Sampler

MOST_TEXT = 1000
MOST_RUN_TEXT = 40000
DIGITS = "0123456789"


def write(program, sampler):
    """The text of a program and a sampler."""
    nexts = program.nexts
    lines = [start_line(program.start)]
    lines.extend([place_line(program[name], nexts[name]) for name in program.names])
    lines.append(sampler_line(sampler))
    return "\n".join(lines)


def read(text):
    """The program and the sampler that have this text."""
    lines = lines_of(text, MOST_TEXT)
    start = start_told(lines[0])
    if start is None:
        raise BadText(1)
    rows = {}
    names = [start]
    for number, line in enumerate(lines[1:], start=2):
        sampler = sampler_told(line)
        if sampler is not None and len(rows) == len(names):
            check_end(lines, number)
            return program_with(rows, start), sampler
        row = place_told(line)
        if row is None or row[0].name in rows:
            raise BadText(number)
        rows[row[0].name] = row
        names = with_names(names, (row[0].name,) + row[1])
        if len(names) > MOST_PLACES:
            raise BadText(number)
    raise BadText(len(lines) + 1)


def write_run(phase, stays, looks):
    """The text of a run."""
    if not is_integer_from(phase, 0, MOST_PERIOD - 1):
        raise BadRun("phase")
    if not has_right_length(stays) or not all([is_stay_of_text(stay) for stay in stays]):
        raise BadRun("stays")
    if not has_right_length(looks) or not all([is_look_of_text(look) for look in looks]):
        raise BadRun("looks")
    lines = [phase_line(phase)]
    lines.extend([stay_line(stay) for stay in stays])
    lines.append(looks_line(looks))
    return "\n".join(lines)


def read_run(text):
    """The run (phase, stays, looks) that has this text."""
    lines = lines_of(text, MOST_RUN_TEXT)
    phase = phase_told(lines[0])
    if phase is None:
        raise BadText(1)
    stays = []
    for number, line in enumerate(lines[1:], start=2):
        looks = looks_told(line)
        if looks is not None and len(stays) > 0:
            check_end(lines, number)
            return phase, stays, looks
        stay = stay_told(line)
        if stay is None or len(stays) == MOST_RUN_TICKS:
            raise BadText(number)
        stays.append(stay)
    raise BadText(len(lines) + 1)


def lines_of(text, most):
    """The lines of a text, which may have so many characters."""
    if not isinstance(text, str) or len(text) > most:
        raise BadText(0)
    return text.split("\n")


def check_end(lines, number):
    """Refuse a line behind the one of this number."""
    if number < len(lines):
        raise BadText(number + 1)


def with_names(names, more):
    """The names, and those of more that are not among them, each once."""
    found = list(names)
    for name in more:
        if name not in found:
            found.append(name)
    return found


def program_with(rows, start):
    """The program of a dict from each name to its place and its nexts."""
    return Program([rows[name][0] for name in rows], {name: rows[name][1] for name in rows}, start=start)


def has_right_length(items):
    """Tell whether items is a list that is neither empty nor too long for a text."""
    return isinstance(items, list) and 1 <= len(items) <= MOST_RUN_TICKS


def is_stay_of_text(stay):
    """Tell whether stay is a tuple of a name and ticks that some place allows."""
    return (isinstance(stay, tuple) and len(stay) == 2 and is_name(stay[0])
            and is_integer_from(stay[1], 1, MOST_TICKS))


def is_look_of_text(look):
    """Tell whether look is None or a place in some slot."""
    return look is None or is_integer_from(look, 0, MOST_PERIOD - 1)


def start_line(start):
    """The line of the start of a program."""
    return f"program start {start}"


def place_line(place, ways):
    """The line of a place with its nexts."""
    kind = "open" if place.let else "closed"
    end = "end" if len(ways) == 0 else " ".join(["to"] + list(ways))
    return f"  {place.name} {kind} {place.least} {place.most} {end}"


def sampler_line(sampler):
    """The line of a sampler."""
    phase = "any" if sampler.phase is None else sampler.phase
    return f"sampler period {sampler.period} jitter {sampler.jitter} phase {phase}"


def phase_line(phase):
    """The line of the phase of a run."""
    return f"run phase {phase}"


def stay_line(stay):
    """The line of a stay."""
    return f"  {stay[0]} {stay[1]}"


def looks_line(looks):
    """The line of the looks of a run."""
    return " ".join(["looks"] + ["-" if look is None else str(look) for look in looks])


# What a line seems to tell is taken from its words. It tells this only if this has just the same line.

def digit_of(word):
    """The number that a word of one digit tells, or -1, which no line of a text tells."""
    return DIGITS.find(word) if len(word) == 1 else -1


def start_told(line):
    """The start that a line tells, or None."""
    start = line.split(" ")[-1]
    return start if is_name(start) and start_line(start) == line else None


def place_told(line):
    """The place and the tuple of its nexts that a line tells, or None."""
    words = line.split(" ")
    ways = tuple(words[7:])
    if len(words) < 7 or not all([is_name(way) for way in ways]) or has_twins(ways):
        return None
    try:
        place = Place(words[2], digit_of(words[4]), digit_of(words[5]), let=words[3] == "open")
    except BadPlace:
        return None
    return (place, ways) if place_line(place, ways) == line else None


def sampler_told(line):
    """The sampler that a line tells, or None."""
    words = line.split(" ")
    if len(words) != 7:
        return None
    phase = None if words[6] == "any" else digit_of(words[6])
    try:
        sampler = Sampler(digit_of(words[2]), digit_of(words[4]), phase=phase)
    except BadSampler:
        return None
    return sampler if sampler_line(sampler) == line else None


def phase_told(line):
    """The phase that a line tells, or None."""
    phase = digit_of(line[-1:])
    return phase if is_integer_from(phase, 0, MOST_PERIOD - 1) and phase_line(phase) == line else None


def stay_told(line):
    """The stay that a line tells, or None."""
    words = line.split(" ")
    stay = (words[-2], digit_of(words[-1])) if len(words) == 4 else None
    return stay if is_stay_of_text(stay) and stay_line(stay) == line else None


def looks_told(line):
    """The list of looks that a line tells, or None."""
    looks = [None if word == "-" else digit_of(word) for word in line.split(" ")[1:]]
    if not has_right_length(looks) or not all([is_look_of_text(look) for look in looks]):
        return None
    return looks if looks_line(looks) == line else None
