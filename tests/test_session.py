import random
import re
import unittest

from facesagain.both import both_range
from facesagain.ends import all_range, gone_range, new_range
from facesagain.errors import FaceError
from facesagain.gaps import gap_of
from facesagain.live import Door
from facesagain.longer import longer_range
from facesagain.session import session
from facesagain.sheets import sheet_of
from facesagain.texts import write_sheet
from tests.samples import HUGE, random_family

NUMBER = "(?:0|[1-9][0-9]{0,29})"
FORMS = {
    "door": NUMBER, "add": f"{NUMBER}(?:,{NUMBER})*", "undo": None, "back": NUMBER, "days": None, "sheet": None,
    "month": f"{NUMBER} {NUMBER}", "all": None, "new": NUMBER, "gone": NUMBER, "gap": f"{NUMBER} {NUMBER}",
    "both": f"{NUMBER} {NUMBER}",
}
LINES = [re.compile(word if form is None else f"{word} {form}") for word, form in FORMS.items()]


def answer_by_functions(door, word, told):
    """What the functions answer of a door that is there."""
    if word in ("add", "undo", "back"):
        call = {"add": door.add, "undo": door.undo, "back": door.undo_to}[word]
        assert (call([int(number) for number in told[0].split(",")]) if word == "add" else call(*told)) is None
        return "ok"
    sheet = door.sheet
    if word == "days":
        return str(len(sheet))
    if not sheet and word != "month":
        return "-" if word == "sheet" else "?"
    if word == "sheet":
        return write_sheet(sheet)
    if word == "gap":
        return str(gap_of(sheet, *told))
    calls = {"all": all_range, "new": new_range, "gone": gone_range, "both": both_range, "month": longer_range}
    ends = door.month(*told) if word == "month" else calls[word](sheet, *told)
    return f"{ends[0]}..{ends[1]}"


def session_by_functions(rows):
    """The answers to a session, by the other functions of the package."""
    door = None
    answers = []
    for line in rows.split("\n"):
        if not any(form.fullmatch(line) for form in LINES) or door is None and not line.startswith("door "):
            answers.append("?")
            continue
        word, *told = line.split(" ")
        if word != "add":
            told = [int(number) for number in told]
        try:
            if word == "door":
                door = Door(*told)
                answers.append("ok")
            else:
                answers.append(answer_by_functions(door, word, told))
        except FaceError as error:
            answers.append(error.__class__.__name__)
    return "\n".join(answers)


def add_lines(sheet):
    return ["add " + word for word in write_sheet(sheet).split(" ")]


class SessionTest(unittest.TestCase):
    def check_lines(self, *told):
        """Tuples (line, answer), in one session."""
        lines, answers = zip(*told)
        self.assertEqual(session("\n".join(lines)).split("\n"), list(answers))

    def check_behind(self, lines, *told):
        """Tuples (line, answer), each one behind the same lines, all of which are right."""
        for line, answer in told:
            found = session("\n".join(lines + [line, "sheet"])).split("\n")
            self.assertEqual(found[-2], answer, line)
            self.assertNotIn("?", found[:-2])
            if answer not in ("ok", "-"):
                self.assertEqual(found[-1], session("\n".join(lines + ["sheet"])).split("\n")[-1], line)


class LinesTest(SessionTest):
    PAPER = ["door 2", "add 3", "add 3,4", "add 2,4"]

    def test_a_session(self):
        self.check_lines(
            ("days", "?"), ("door 2", "ok"), ("days", "0"), ("sheet", "-"), ("add 3", "ok"), ("days", "1"),
            ("sheet", "3"), ("all", "3..3"), ("add 3,4", "ok"), ("gap 0 1", "2"), ("both 0 1", "2..2"),
            ("add 2,4", "ok"), ("sheet", "3 3,4 2,4"), ("all", "4..5"), ("month 0 2", "4..5"), ("month 0 1", "4..4"),
            ("new 2", "0..1"), ("gone 0", "0..1"), ("both 0 2", "0..2"), ("gap 1 2", "1"), ("gap 0 2", "InvalidDay"),
            ("add 1,9", "Impossible"), ("add 1", "InvalidRow"), ("days", "3"), ("undo", "ok"), ("days", "2"),
            ("back 3", "InvalidIndex"), ("back 0", "ok"), ("undo", "NothingToUndo"), ("sheet", "-"), ("all", "?"),
            ("door 31", "InvalidWidth"), ("add 7", "ok"), ("add 7,7", "ok"), ("add 7", "InvalidRow"), ("door 1", "ok"),
            ("add 7", "ok"), ("add 8", "ok"), ("all", "8..15"), ("", "?"),
        )

    def test_the_empty_string(self):
        self.assertEqual(session(""), "?")
        self.assertEqual(session("\n"), "?\n?")
        self.assertEqual(session("\n\n"), "?\n?\n?")
        self.assertEqual(session("door 1\n"), "ok\n?")
        self.assertEqual(session(rows="door 1"), "ok")

    def test_one_answer_for_each_line(self):
        for count in range(101):
            self.assertEqual(session("\n".join(["days"] * count)), "\n".join(["?"] * max(count, 1)))

    def test_lines_before_there_is_a_door(self):
        others = ["add 1", "undo", "back 0", "days", "sheet", "month 0 0", "all", "new 0", "gone 0", "gap 0 1",
                  "both 0 1", "x", "", "door", "door x", "door 1 2", "doors 1"]
        self.check_lines(*[(line, "?") for line in others])
        self.check_lines(
            *[(line, "?") for line in others], ("door 0", "InvalidWidth"), *[(line, "?") for line in others],
            ("door 31", "InvalidWidth"), ("days", "?"), ("door 30", "ok"), ("days", "0"),
        )

    def test_door_lines(self):
        self.check_lines(*[(f"door {width}", "ok") for width in range(1, 31)])
        self.check_lines(*[(f"door {width}", "InvalidWidth") for width in (0, 31, 32, 100, HUGE)])
        self.check_lines(*[
            (line, "?") for line in (
                "door", "door ", "door  1", " door 1", "door 1 ", "door 1 1", "door -1", "door +1", "door 01",
                "door 00", "door 1.0", "door x", "door 1,2", "Door 1", "DOOR 1", "doors 1", "door\t1", "door1",
                f"door {HUGE + 1}",
            )
        ])

    def test_a_second_door(self):
        self.check_lines(
            ("door 2", "ok"), ("add 3", "ok"), ("door 3", "ok"), ("days", "0"), ("add 5", "ok"), ("add 5,6", "ok"),
            ("door 0", "InvalidWidth"), ("door x", "?"), ("days", "2"), ("add 4,6,7", "ok"), ("sheet", "5 5,6 4,6,7"),
            ("door 3", "ok"), ("sheet", "-"), ("undo", "NothingToUndo"),
        )

    def test_add_lines(self):
        self.check_behind(
            self.PAPER, ("add 1,2", "ok"), ("add 0,2", "ok"), ("add 2", "InvalidRow"), ("add 1,2,3", "InvalidRow"),
            ("add 1,9", "Impossible"), (f"add {HUGE},{HUGE}", "ok"), (f"add {HUGE + 1},{HUGE}", "?"), ("add", "?"),
            ("add ", "?"), ("add 1,", "?"), ("add ,1", "?"), ("add 1,,2", "?"), ("add 1, 2", "?"), ("add 1 2", "?"),
            ("add 1,x", "?"), ("add -1,2", "?"), ("add 1,02", "?"), ("add 1;2", "?"), ("add 1.2", "?"),
            ("add [1]", "?"), ("add 1,2 ", "?"), ("add  1,2", "?"), (" add 1,2", "?"),
        )
        self.check_behind(["door 1"], ("add 0", "ok"), ("add 0,0", "InvalidRow"), ("add 00", "?"))
        self.check_behind(["door 9"], ("add 5", "ok"), ("add 5,5", "InvalidRow"))

    def test_undo_and_back_lines(self):
        self.check_behind(
            self.PAPER, ("undo", "ok"), ("undo ", "?"), ("undo 1", "?"), ("undo x", "?"), ("Undo", "?"),
            ("back 0", "ok"), ("back 2", "ok"), ("back 3", "ok"), ("back 4", "InvalidIndex"),
            (f"back {HUGE}", "InvalidIndex"),
            ("back", "?"), ("back ", "?"), ("back -1", "?"), ("back 01", "?"), ("back 1 1", "?"), ("back x", "?"),
            (f"back {HUGE + 1}", "?"),
        )
        self.check_behind(["door 4"], ("undo", "NothingToUndo"), ("back 0", "ok"), ("back 1", "InvalidIndex"))
        self.check_lines(
            *[(line, "ok") for line in self.PAPER], ("back 1", "ok"), ("sheet", "3"), ("undo", "ok"), ("days", "0"),
        )

    def test_days_and_sheet_lines(self):
        self.check_behind(
            self.PAPER, ("days", "3"), ("sheet", "3 3,4 2,4"), ("days ", "?"), ("days 1", "?"), ("sheet 1", "?"),
            ("sheet ", "?"), ("day", "?"), ("sheets", "?"), ("mark", "?"), ("len", "?"), ("twin", "?"), ("width", "?"),
        )
        self.check_behind(["door 4"], ("days", "0"), ("sheet", "-"), ("days ", "?"), ("sheet x", "?"))

    def test_month_lines(self):
        self.check_behind(
            self.PAPER, ("month 0 2", "4..5"), ("month 1 1", "3..3"), ("month 2 1", "InvalidDay"),
            ("month 0 3", "InvalidDay"), ("month 3 3", "InvalidDay"), (f"month 0 {HUGE}", "InvalidDay"), ("month", "?"),
            ("month 0", "?"), ("month 0 1 2", "?"), ("month 0 x", "?"), ("month x 0", "?"), ("month 0 01", "?"),
            ("month 0  1", "?"), ("month -1 1", "?"), ("month 0,1", "?"), ("month 0 1 ", "?"), ("month 0..1", "?"),
        )
        # month is not among the lines that answer ? without days.
        self.check_behind(["door 4"], ("month 0 0", "InvalidDay"), ("month 1 0", "InvalidDay"), ("month 0", "?"))

    def test_lines_about_the_sheet(self):
        self.check_behind(
            self.PAPER, ("all", "4..5"), ("new 0", "3..3"), ("new 2", "0..1"), ("gone 0", "0..1"), ("gone 2", "2..2"),
            ("gap 0 1", "2"), ("both 0 1", "2..2"), ("both 0 2", "0..2"), ("new 3", "InvalidDay"),
            ("gone 3", "InvalidDay"), ("gap 0 2", "InvalidDay"), ("gap 1 0", "InvalidDay"), ("gap 0 0", "InvalidDay"),
            ("gap 2 3", "InvalidDay"), ("both 1 0", "InvalidDay"), ("both 0 0", "InvalidDay"),
            ("both 0 3", "InvalidDay"), (f"new {HUGE}", "InvalidDay"), ("all 0", "?"), ("all ", "?"), ("new", "?"),
            ("new x", "?"), ("new 0 1", "?"), ("new -1", "?"), ("gone", "?"), ("gone 00", "?"), ("gone 0 ", "?"),
            ("gap 0", "?"), ("gap 0 1 2", "?"), ("gap 0 -1", "?"), ("both", "?"), ("both 0", "?"), ("both 0 1 2", "?"),
            ("both 0,1", "?"), ("again 0", "?"), ("next 0 1", "?"), ("away 0", "?"), (f"new {HUGE + 1}", "?"),
        )

    def test_without_days(self):
        lines = ["all", "new 0", "new 5", "gone 0", "gone 31", "gap 0 1", "gap 1 0", "both 0 1", "both 0 0", "new x"]
        self.check_behind(["door 4"], *[(line, "?") for line in lines])
        self.check_behind(["door 4", "add 1", "undo"], *[(line, "?") for line in lines])
        self.check_behind(["door 4", "add 1", "back 0"], *[(line, "?") for line in lines])

    def test_other_lines(self):
        others = ["x", " ", "  ", "-", "?", "ok", "door", "add", "#", "all all", "days\t", "DAYS", "days\r", "0", "1,2",
                  "undo_to 0", "quit", "sheet\\n", "add\n", "month\n0 0"]
        for line in others:
            self.assertEqual(set(session("door 2\nadd 1\n" + line).split("\n")[2:]), {"?"})

    def test_a_line_with_an_empty_word(self):
        for line in ("days", "undo", "sheet", "all", "new 0", "gap 0 1", "month 0 1", "add 1,1", "back 0", "door 3"):
            for at in range(len(line) + 1):
                if at in (0, len(line)) or line[at] == " ":
                    self.check_behind(["door 2", "add 1"], (line[:at] + " " + line[at:], "?"))


class NothingChangesTest(SessionTest):
    def test_between_an_add_and_an_undo(self):
        for line, answer in (
            ("add 1", "InvalidRow"), ("add 0,9", "Impossible"), ("back 9", "InvalidIndex"), ("door 99", "InvalidWidth"),
            ("month 9 9", "InvalidDay"), ("new 9", "InvalidDay"), ("x", "?"), ("", "?"), ("undo 1", "?"), ("door", "?"),
            ("add", "?"), ("back 01", "?"), (" undo", "?"),
        ):
            self.check_lines(
                ("door 2", "ok"), ("add 3", "ok"), ("add 3,4", "ok"), ("add 2,4", "ok"), (line, answer),
                ("sheet", "3 3,4 2,4"), ("undo", "ok"), ("sheet", "3 3,4"), (line, answer), ("undo", "ok"),
                ("sheet", "3"), (line, answer if line != "add 0,9" else "Impossible"), ("days", "1"), ("undo", "ok"),
                ("undo", "NothingToUndo"), ("sheet", "-"),
            )

    def test_queries_change_nothing(self):
        lines = ["door 3"]
        for line in add_lines(sheet_of([((0, 1), 2), ((1, 3), 4), ((2,), 1), ((4,), 1)], 5, 3)):
            lines.append(line)
            for query in ("all", "new 0", "gone 0", "gap 0 1", "both 0 1", "month 0 0", "days", "sheet"):
                answers = session("\n".join(lines + ["sheet", query, "sheet", query])).split("\n")
                self.assertEqual(answers[-4:-2], answers[-2:])


class NumbersTest(SessionTest):
    def test_numbers_longer_than_thirty_digits(self):
        self.check_lines(
            ("door 1", "ok"), (f"add {HUGE}", "ok"), (f"add {HUGE}", "ok"), (f"add {HUGE}", "ok"),
            ("all", f"{HUGE}..{3 * HUGE}"), ("month 0 1", f"{HUGE}..{2 * HUGE}"), ("both 0 2", f"0..{HUGE}"),
            (f"add {HUGE + 1}", "?"), (f"add 1{'0' * 30}", "?"), ("sheet", " ".join([str(HUGE)] * 3)),
        )
        self.assertGreater(len(str(3 * HUGE)), 30)
        self.check_lines(
            ("door 2", "ok"), (f"add {HUGE}", "ok"), (f"add {HUGE},{HUGE}", "ok"), ("gap 0 1", str(HUGE)),
            ("both 0 1", f"{HUGE}..{HUGE}"),
        )

    def test_a_session_of_100_lines(self):
        sheet = sheet_of(random_family(random.Random(81), 30, 90, HUGE // 100), 30, 7)
        lines = ["door 7"] + add_lines(sheet) + ["days", "sheet", "all"]
        lines += [f"{word} {day}" for word in ("new", "gone") for day in range(0, 30, 2)]
        lines += [f"{word} {day} {day + 6}" for word in ("gap", "both", "month") for day in range(0, 24, 2)]
        self.assertEqual(len(lines), 100)
        answers = session("\n".join(lines)).split("\n")
        self.assertEqual(len(answers), 100)
        self.assertEqual(answers[:31], ["ok"] * 31)
        self.assertEqual(answers[31:33], ["30", write_sheet(sheet)])
        self.assertNotIn("?", answers)
        self.assertEqual("\n".join(answers), session_by_functions("\n".join(lines)))

    def test_thirty_days_again_and_again(self):
        lines = ["door 30"]
        for _ in range(3):
            lines += add_lines(sheet_of([(tuple(range(30)), 3)], 30, 30)) + ["all", "back 0"]
        answers = session("\n".join(lines[:97])).split("\n")
        self.assertEqual([answer for answer in answers if answer != "ok"], ["3..3"] * 3)


class DrawnTest(SessionTest):
    def draw_line(self, rng, sheet):
        word = rng.choice(list(FORMS) + ["add"] * 8)
        if word == "add":
            drawn = [rng.randint(0, 3) for _ in range(rng.randint(1, 4))]
            row = rng.choice([rng.choice(sheet), drawn[:1], drawn])
            line = "add " + ",".join(map(str, row))
        elif word == "door":
            line = f"door {rng.choice([0, 1, 2, 3, 3, 7, 30, 31])}"
        else:
            days = 0 if FORMS[word] is None else FORMS[word].count(" ") + 1
            line = " ".join([word] + [str(rng.randint(0, 5)) for _ in range(days)])
        if rng.random() < 0.1:
            at = rng.randrange(len(line) + 1)
            line = line[:at] + rng.choice([" ", "0", "x", ",", ""]) + line[at + rng.randint(0, 1):]
        return line

    def test_drawn_sessions_by_the_functions(self):
        rng = random.Random(82)
        seen = {}
        for _ in range(250):
            sheet = sheet_of(random_family(rng, rng.randint(1, 6), 5, 3), 6, rng.choice([1, 2, 3, 6]))
            lines = [self.draw_line(rng, sheet) for _ in range(rng.randint(1, 20))]
            if rng.random() < 0.8:
                lines = [f"door {len(sheet[-1])}"] + add_lines(sheet)[:rng.randint(0, 6)] + lines
            rows = "\n".join(lines)
            answers = session(rows)
            self.assertEqual(answers, session_by_functions(rows), rows)
            for answer in answers.split("\n"):
                seen[answer] = seen.get(answer, 0) + 1
        for answer in ("ok", "?", "-", "0", "1..1", "InvalidDay", "InvalidRow", "InvalidWidth", "InvalidIndex",
                       "NothingToUndo", "Impossible"):
            self.assertGreater(seen[answer], 3, answer)


if __name__ == "__main__":
    unittest.main()
