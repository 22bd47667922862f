"""Points 15.1 to 15.5, and 0.3 to 0.6 as far as they speak of texts."""

import inspect
import re
import unittest

from seenshares.errors import BadRun, BadText, SeenError
from seenshares.programs import Place, Program
from seenshares.samplers import Sampler
from seenshares.texts import read, read_run, write, write_run
from tests.cases import CASES, error_of, program_of, short_runs
from tests.objects import others

WEB = Program([Place("web", 1, 3), Place("db", 2, let=False)], {"web": ("db", "web"), "db": ()})
TEXT = "program start web\n  web open 1 3 to db web\n  db closed 2 2 end\nsampler period 5 jitter 1 phase any"
RUN = (1, [("a", 2), ("b", 1)], [None, 0])
RUN_TEXT = "run phase 1\n  a 2\n  b 1\nlooks - 0"
# Words that are put in the place of others.
WORDS = ["", "any", "closed", "end", "open", "to", "a", "zz", "abcdefghi", "0", "7", "8", "9", "01", "-", "+1", "1.0",
         "program", "sampler", "looks", "run"]
# The longest of all texts.
LONG_NAMES = ["abcdefg" + letter for letter in "uvwxyz"]
LONG = program_of(",".join(f"{name} 1 6 closed {' '.join(LONG_NAMES)}" for name in LONG_NAMES)), Sampler(8)
SIX = program_of("a 1 2 open b, b 6 6 closed c d, c 1 1 open, d 2 3 open e f a, e 4 5 closed e, f 1 1 open"), \
    Sampler(8, 7, phase=3)


def whole_by_words(text):
    """Whether this is the text of a program and a sampler, by building them and writing them again."""
    lines = text.split("\n")
    names, places, nexts = [], [], {}
    for line in lines[1:-1]:
        parts = re.fullmatch("  ([a-z]+) (open|closed) ([1-6]) ([1-6]) (?:end|to((?: [a-z]+)+))", line)
        if not parts:
            return False
        name, kind, least, most, ways = parts.groups()
        names.append(name)
        try:
            places.append(Place(name, int(least), int(most), let=kind == "open"))
        except SeenError:
            return False
        nexts[name] = tuple((ways or "").split())
    start = re.fullmatch("program start ([a-z]+)", lines[0])
    last = re.fullmatch("sampler period ([1-8]) jitter ([0-7]) phase ([0-7]|any)", lines[-1])
    if not start or not last or len(set(names)) != len(names):
        return False
    period, jitter, phase = last.groups()
    try:
        sampler = Sampler(int(period), int(jitter), phase=None if phase == "any" else int(phase))
        return write(Program(places, nexts, start=start.group(1)), sampler) == text
    except SeenError:
        return False


def is_begun_by_words(lines):
    """Whether these lines are the first lines of a text, by adding what may be missing."""
    text = "\n".join(lines)
    if whole_by_words(text):
        return True
    words = " ".join([lines[0][14:]] + [line.partition(" to ")[2] for line in lines[1:]]).split()
    placed = [line.split(" ")[2] for line in lines[1:] if line.startswith("  ")]
    missing = [f"  {name} open 1 1 end" for name in dict.fromkeys(words) if name not in placed]
    return whole_by_words("\n".join(lines + missing + ["sampler period 1 jitter 0 phase 0"]))


def bad_line_by_words(text):
    """The line of point 15.2, or None for a right text."""
    lines = text.split("\n")
    for many in range(1, len(lines) + 1):
        if not is_begun_by_words(lines[:many]):
            return many
    return None if whole_by_words(text) else len(lines) + 1


def bad_run_line_by_words(text):
    """The line of point 15.5 for a text with few lines, or None for a right text."""
    lines = text.split("\n")
    for at, line in enumerate(lines):
        if at == 0:
            fits = re.fullmatch("run phase [0-7]", line)
        elif at > 1 and line.startswith("looks") and re.fullmatch("looks(?: (?:[0-7]|-))+", line):
            return at + 2 if at + 1 < len(lines) else None
        else:
            word = re.fullmatch("  ([a-z]{1,8}) [1-6]", line)
            fits = word and word.group(1) not in ("any", "closed", "end", "open", "to")
        if not fits:
            return at + 1
    return len(lines) + 1


def spoiled(text, signs):
    """The text with one sign put in, put over or taken out, and with lines and words that are moved or missing."""
    for at in range(len(text) + 1):
        for sign in signs:
            yield text[:at] + sign + text[at:]
            yield text[:at] + sign + text[at + 1:]
        yield text[:at] + text[at + 1:]
        yield text[:at]
    lines = text.split("\n")
    for at in range(len(lines)):
        yield "\n".join(lines[:at] + lines[at + 1:])
        yield "\n".join(lines[:at] + [lines[at]] + lines[at:])
        for other in range(len(lines)):
            changed = list(lines)
            changed[at], changed[other] = changed[other], changed[at]
            yield "\n".join(changed)
        words = lines[at].split(" ")
        for spot in range(len(words)):
            for word in WORDS:
                yield "\n".join(lines[:at] + [" ".join(words[:spot] + [word] + words[spot + 1:])] + lines[at + 1:])
            yield "\n".join(lines[:at] + [" ".join(words[:spot] + words[spot + 1:])] + lines[at + 1:])
            yield "\n".join(lines[:at] + [" ".join(words[:spot + 1] + words[spot:])] + lines[at + 1:])
    yield text + "\n"
    yield "\n" + text
    yield text + " "
    yield text.replace("\n", "\r\n")
    yield text.replace("\n", "\n\n")
    yield text.upper()


class WriteTest(unittest.TestCase):

    def test_the_parameters(self):
        self.assertEqual(str(inspect.signature(write)), "(program, sampler)")
        self.assertEqual(str(inspect.signature(read)), "(text)")
        self.assertEqual(str(inspect.signature(write_run)), "(phase, stays, looks)")
        self.assertEqual(str(inspect.signature(read_run)), "(text)")

    def test_line_by_line(self):
        self.assertEqual(write(WEB, Sampler(5, 1, phase=None)), TEXT)
        self.assertEqual(write(*SIX).split("\n"), [
            "program start a", "  a open 1 2 to b", "  b closed 6 6 to c d", "  c open 1 1 end",
            "  d open 2 3 to e f a", "  e closed 4 5 to e", "  f open 1 1 end", "sampler period 8 jitter 7 phase 3"])
        self.assertEqual(write(program_of("b 1 1 closed, a 2 2 open b", start="a"), Sampler(1)),
                         "program start a\n  b closed 1 1 end\n  a open 2 2 to b\nsampler period 1 jitter 0 phase 0")

    def test_a_dict_of_nexts_in_another_order(self):
        other = Program([Place("web", 1, 3), Place("db", 2, let=False)], {"db": (), "web": ("db", "web")})
        self.assertEqual(write(other, Sampler(5, 1, phase=None)), TEXT)
        swapped = Program([Place("web", 1, 3), Place("db", 2, let=False)], {"db": (), "web": ("web", "db")})
        self.assertEqual(write(swapped, Sampler(5, 1, phase=None)), TEXT.replace("db web", "web db"))


class ReadTest(unittest.TestCase):

    def check_round(self, program, sampler):
        text = write(program, sampler)
        told = read(text)
        self.assertEqual([type(told), len(told), type(told[0]), type(told[1])], [tuple, 2, Program, Sampler])
        self.assertTrue(told[0] == program and program == told[0])
        self.assertTrue(told[1] == sampler and sampler == told[1])
        self.assertEqual(write(*told), text)
        self.assertEqual(list(told[0].nexts.items()), [(name, program.nexts[name]) for name in program.names])
        self.assertTrue(whole_by_words(text))

    def test_read_of_write_and_write_of_read(self):
        for program, sampler in CASES + [LONG, SIX, (WEB, Sampler(5, 1, phase=None))]:
            self.check_round(program, sampler)
        for period in range(1, 9):
            for jitter in range(period):
                for phase in [None, *range(period)]:
                    self.check_round(WEB, Sampler(period, jitter, phase=phase))
        for least in range(1, 7):
            for most in range(least, 7):
                self.check_round(program_of(f"a {least} {most} open a"), Sampler(1))

    def test_texts_that_are_spoiled_at_each_place(self):
        seen = set()
        small = program_of("a 1 2 open b, b 1 1 closed a b", start="b"), Sampler(3, 2, phase=1)
        for text in (TEXT, write(*small), write(*SIX)):
            for other in spoiled(text, ["a", " ", "\n", "1", "9", "A", "-"]):
                right = bad_line_by_words(other)
                if right is None:
                    self.assertEqual(write(*read(other)), other)
                else:
                    self.assertEqual(error_of(BadText, read, other), {"line": right}, other)
                seen.add(right)
        self.assertEqual(seen, {None, *range(1, 10)})

    def test_lines_that_are_missing_at_the_end(self):
        for text in (TEXT, write(*SIX), write(*LONG)):
            lines = text.split("\n")
            for many in range(1, len(lines)):
                self.assertEqual(error_of(BadText, read, "\n".join(lines[:many])), {"line": many + 1})

    def test_a_line_feed_at_the_end_and_the_empty_string(self):
        self.assertEqual(error_of(BadText, read, TEXT + "\n"), {"line": 5})
        self.assertEqual(error_of(BadText, read, TEXT + "\n\n\n"), {"line": 5})
        self.assertEqual(error_of(BadText, read, ""), {"line": 1})
        self.assertEqual(error_of(BadText, read, "\n"), {"line": 1})
        self.assertEqual(error_of(BadText, read, "program start web\n"), {"line": 2})

    def test_more_than_six_names(self):
        head, tail = "program start a", "sampler period 1 jitter 0 phase 0"
        rows = [
            (["  a open 1 1 to b c d e f", "  b open 1 1 to g"], 3),
            (["  a open 1 1 to b c d e f", "  g open 1 1 end"], 3),
            (["  b open 1 1 to b c d e f", "  g open 1 1 end"], 3),
            (["  b open 1 1 to b c d e f g"], 2),
            (["  b open 1 1 to c d e f a b", "  a open 1 1 end"], None),
            ([f"  {name} open 1 1 end" for name in "fedcba"] + ["  g open 1 1 end"], 8),
            ([f"  {name} open 1 1 end" for name in "fedcba"] + ["  a open 1 1 end"], 8),
            ([f"  {name} open 1 1 end" for name in "gfedcb"], 7),
        ]
        for lines, right in rows:
            text = "\n".join([head] + lines + [tail])
            self.assertEqual(bad_line_by_words(text), right or len(lines) + 2)
            self.assertEqual(error_of(BadText, read, text), {"line": right or len(lines) + 2})

    def test_a_name_without_a_place(self):
        tail = "sampler period 1 jitter 0 phase 0"
        self.assertEqual(error_of(BadText, read, f"program start a\n{tail}"), {"line": 2})
        self.assertEqual(error_of(BadText, read, f"program start a\n  b open 1 1 end\n{tail}"), {"line": 3})
        self.assertEqual(error_of(BadText, read, f"program start a\n  a open 1 1 to b\n{tail}"), {"line": 3})
        text = f"program start a\n  a open 1 1 to b\n  b open 1 1 end\n{tail}"
        self.assertEqual(write(*read(text)), text)

    def test_what_is_no_text(self):
        for thing in others(str) + [TEXT.encode(), [TEXT], TEXT.split("\n")]:
            self.assertEqual(error_of(BadText, read, thing), {"line": 0})

    def test_1000_and_1001_characters(self):
        self.assertLess(len(write(*LONG)), 1000)
        for text in (TEXT + "\n" * 1000, write(*LONG) + " " * 1000, "\n" * 1001, "x" * 1001):
            self.assertEqual(error_of(BadText, read, text[:1001]), {"line": 0})
            self.assertNotEqual(error_of(BadText, read, text[:1000]), {"line": 0})
        self.assertEqual(error_of(BadText, read, (TEXT + "\n" * 1000)[:1000]), {"line": 5})


class WriteRunTest(unittest.TestCase):

    def test_line_by_line(self):
        self.assertEqual(write_run(*RUN), RUN_TEXT)
        self.assertEqual(write_run(7, [("abcdefgh", 6)], [7, None, 0]), "run phase 7\n  abcdefgh 6\nlooks 7 - 0")

    def test_the_parts_in_their_order(self):
        for thing in others(int) + [True, False, -1, 8, 10 ** 99]:
            self.assertEqual(error_of(BadRun, write_run, thing, None, None), {"part": "phase"})
        for thing in others(list) + [[], tuple(RUN[1])]:
            self.assertEqual(error_of(BadRun, write_run, 0, thing, None), {"part": "stays"})
            self.assertEqual(error_of(BadRun, write_run, 0, RUN[1], thing), {"part": "looks"})

    def test_wrong_stays_and_looks(self):
        wrong = others() + [("a", True), ("a", 0), ("a", 7), ("a", 10 ** 99), ("a", -1), ("a",), ("a", 1, 1), ["a", 1],
                            (1, "a"), ("", 1), ("A", 1), ("open", 1), ("abcdefghi", 1), ("a", None), ("a", "1")]
        for thing in wrong:
            for stays in ([thing], [("a", 1), thing], [("a", 1)] * 1999 + [thing]):
                self.assertEqual(error_of(BadRun, write_run, 0, stays, None), {"part": "stays"})
        for thing in others(int, type(None)) + [True, False, -1, 8, 10 ** 99, "-", "0"]:
            for looks in ([thing], [0, None, thing], [None] * 1999 + [thing]):
                self.assertEqual(error_of(BadRun, write_run, 0, RUN[1], looks), {"part": "looks"})

    def test_2000_and_2001_stays_and_looks(self):
        for stays, looks in [([("abcdefgh", 6)] * 2000, [7] * 2000), ([("a", 1)] * 2000, [None])]:
            self.assertEqual(read_run(write_run(7, stays, looks)), (7, stays, looks))
        self.assertEqual(error_of(BadRun, write_run, 0, [("a", 1)] * 2001, None), {"part": "stays"})
        self.assertEqual(error_of(BadRun, write_run, 0, [("a", 1)], [0] * 2001), {"part": "looks"})

    def test_the_lists_stay(self):
        stays, looks = [("a", 2), ("b", 1)], [None, 0]
        write_run(1, stays, looks)
        self.assertEqual((1, stays, looks), RUN)


class ReadRunTest(unittest.TestCase):

    def test_read_of_write_and_write_of_read(self):
        for program, sampler in CASES[::9]:
            for run, _ in short_runs(program, sampler, 5):
                told = read_run(write_run(*run))
                self.assertEqual(told, run)
                self.assertEqual([type(told), *map(type, told)], [tuple, int, list, list])
        self.assertEqual(write_run(*read_run(RUN_TEXT)), RUN_TEXT)
        read_run(RUN_TEXT)[1].clear()
        self.assertEqual(read_run(RUN_TEXT), RUN)

    def test_texts_that_are_spoiled_at_each_place(self):
        seen = set()
        for text in (RUN_TEXT, write_run(0, [("web", 6)] * 3, [None]), write_run(7, [("a", 1)], [7, 0, None, 3])):
            for other in spoiled(text, ["a", " ", "\n", "1", "9", "A", "-"]):
                right = bad_run_line_by_words(other)
                if right is None:
                    self.assertEqual(write_run(*read_run(other)), other)
                else:
                    self.assertEqual(error_of(BadText, read_run, other), {"line": right}, other)
                seen.add(right)
        self.assertEqual(seen, {None, *range(1, 7)})

    def test_lines_that_are_missing_or_too_many(self):
        lines = RUN_TEXT.split("\n")
        for many in range(1, 4):
            self.assertEqual(error_of(BadText, read_run, "\n".join(lines[:many])), {"line": many + 1})
        self.assertEqual(error_of(BadText, read_run, ""), {"line": 1})
        self.assertEqual(error_of(BadText, read_run, RUN_TEXT + "\n"), {"line": 5})
        self.assertEqual(error_of(BadText, read_run, RUN_TEXT + "\nlooks 0"), {"line": 5})
        self.assertEqual(error_of(BadText, read_run, "run phase 0\nlooks 0"), {"line": 2})
        self.assertEqual(error_of(BadText, read_run, "run phase 0\n  a 1\nlooks"), {"line": 3})
        self.assertEqual(error_of(BadText, read_run, "run phase 0\n  a 1\nlooks "), {"line": 3})

    def test_2000_and_2001_lines_and_looks(self):
        stays = "\n  a 1" * 2000
        for end, right in [("", 2002), ("\n  a 1", 2002), ("\n  a 1\nlooks 0", 2002), ("\nlooks" + " 0" * 2001, 2002),
                           ("\nlooks" + " 0" * 2000 + "\n", 2003), ("0", 2001)]:
            self.assertEqual(error_of(BadText, read_run, f"run phase 0{stays}{end}"), {"line": right})
        self.assertEqual(len(read_run(f"run phase 0{stays}\nlooks" + " -" * 2000)[2]), 2000)

    def test_what_is_no_text(self):
        for thing in others(str) + [RUN_TEXT.encode(), [RUN_TEXT]]:
            self.assertEqual(error_of(BadText, read_run, thing), {"line": 0})

    def test_40000_and_40001_characters(self):
        longest = write_run(7, [("abcdefgh", 6)] * 2000, [7] * 2000)
        self.assertLess(len(longest), 40000)
        for text in (longest + "\n" * 40000, longest + " " * 40000, "x" * 40001, "\n" * 40001):
            self.assertEqual(error_of(BadText, read_run, text[:40001]), {"line": 0})
            self.assertNotEqual(error_of(BadText, read_run, text[:40000]), {"line": 0})
        self.assertEqual(error_of(BadText, read_run, (longest + "\n" * 40000)[:40000]), {"line": 2003})


if __name__ == "__main__":
    unittest.main()
