"""[33], [34]: the desk, its log, and logs that are told again."""

import inspect
import random
import unittest

from making import ANY_VALUES, WORDS_NO_LETTERS, Case, any_calls, deep
from ledgertrace.blame import blames
from ledgertrace.chain import links
from ledgertrace.desk import Desk, replayed
from ledgertrace.errors import BadLine, BadValue
from ledgertrace.ledgers import Ledger
from ledgertrace.polys import ZERO, poly_text, read_poly, replaced
from ledgertrace.programs import program_text
from ledgertrace.tables import poly_at, rows_of
from ledgertrace.why import witnesses

LINES = (
    "source sold eve 1 ann 3 / bob 5 / ann 4",
    "source paid joe 1 ann eve / bob eve / bob joe",
    "step who joe 2 s=sold.0 p=paid.0 : pick(join(take s, take p, 0=0), 3)",
    "step who joe 2 t=who.0 : keep(take t, #0 = joe)")
WHY = "a1*a4 + a2*a5 + a3*a4"


def filled():
    desk = Desk("a")
    for line in LINES:
        desk.tell(line)
    return desk


class DeskCase(Case):

    def setUp(self):
        self.desk = filled()

    def answers(self, line, answer):
        self.assertEqual(self.desk.tell(line), answer, line)

    def link(self):
        """What all records hang on, told without the desk's log growing by it."""
        return replayed("a", self.desk.log()).tell("link")

    def refused(self, line, word):
        """The line is answered so; it stands in the log, but changes nothing else."""
        log, link = self.desk.log(), self.link()
        self.answers(line, "no " + word)
        self.assertEqual(self.desk.log(), log + line + "\n")
        self.assertEqual(self.link(), link)

    def is_none(self, line):
        """The line is none: it does not stand in the log and changes nothing."""
        log, link = self.desk.log(), self.link()
        self.raises(BadLine, 0, self.desk.tell, line)
        self.assertEqual((self.desk.log(), self.link()), (log, link))


class EachLine(DeskCase):

    def test_names_and_arguments(self):
        for name, arguments in (("tell", ["line"]), ("log", [])):
            self.assertIn(name, vars(Desk))
            self.assertEqual(list(inspect.signature(getattr(Desk, name)).parameters), ["self"] + arguments)
        self.assertEqual(list(inspect.signature(Desk).parameters), ["name"])
        self.assertEqual(list(inspect.signature(replayed).parameters), ["name", "log"])
        self.assertEqual(Desk(name="a").tell(line="names"), "")
        self.assertEqual(replayed(log="names\n", name="b").log(), "names\n")

    def test_source(self):
        desk = Desk("z")
        self.assertEqual([desk.tell("source sold eve 0 1"), desk.tell("source sold eve 0 -9999 abcdefgh 0 / 1 a 9999")], ["0", "1"])
        self.assertEqual(desk.tell("show sold 1"), "-9999 abcdefgh 0 / 1 a 9999")
        self.assertEqual(desk.tell("how sold 1 1 a 9999"), "z3")
        self.assertEqual(desk.tell("source sold eve 999999999 1 / 1 / 1"), "2")
        self.assertEqual(desk.tell("how sold 2 1"), "z4 + z5 + z6")

    def test_step(self):
        self.answers("step who eve 5 t=who.0 u=sold.0 : both(take t, pick(take u, 0))", "2")
        self.answers("show who 2", "ann / bob / eve / joe")
        self.answers("step new eve 5 who=who.1 : take who", "0")
        self.answers("show new 0", "joe")
        self.answers("step wide eve 5 t=sold.0 : make(keep(take t, #1 < 5), less 1 1)", "0")
        self.answers("show wide 0", "ann 3 0 / ann 4 0")

    def test_forget(self):
        self.answers("forget a5 kim 2", "ok")
        self.answers("show paid 0", "ann eve / bob joe")
        self.answers("how who 0 eve", "a1*a4 + a3*a4")
        self.refused("forget a5 kim 2", "NothingThere")

    def test_show(self):
        self.answers("show sold 0", "ann 3 / ann 4 / bob 5")
        self.answers("show who 0", "eve / joe")
        self.answers("step none eve 2 t=who.0 : keep(take t, #0 = kim)", "0")
        self.answers("show none 0", "")
        self.answers("forget a6 eve 2", "ok")
        self.answers("show who 1", "")

    def test_how(self):
        self.answers("how who 0 eve", WHY)
        self.answers("how who 1 joe", "a2*a6")
        self.answers("how sold 0 ann 4", "a3")
        self.answers("step two eve 2 t=sold.0 : join(both(take t, take t), take t, 0=0 1=1)", "0")
        self.answers("how two 0 bob 5 bob 5", "2*a2^2")

    def test_why(self):
        self.answers("why who 0 eve", "a1 a4 / a2 a5 / a3 a4")
        self.answers("why sold 0 bob 5", "a2")
        self.answers("step two eve 2 t=sold.0 p=who.0 : join(pick(take t, 0), take p)", "0")
        self.answers("why two 0 ann eve", "a1 a4 / a3 a4 / a1 a2 a5 / a2 a3 a5")

    def test_blame(self):
        self.answers("blame who 0 eve", "a2 1:2, a4 1:2, a5 1:2, a1 1:3, a3 1:3")
        self.answers("blame sold 0 bob 5", "a2 1:1")
        self.answers("step more eve 2 t=sold.0 : both(take t, pick(join(take t, take t, 0=0), 0 1))", "0")
        self.answers("blame more 0 ann 3", "a1 1:1, a3 0:1")

    def test_rows_that_are_none_of_the_artifact(self):
        for row in ("kim", "5", "0", "eve eve", "eve joe", "eve 1 2 3 4 5 6 7", "abcdefghij", "10000", "-10000", "999999999",
                    "-999999999", "ann", "ann 3", "1 " * 300 + "1", "z" * 3000):
            for line, answer in (("how", "0"), ("why", "none"), ("blame", "none")):
                self.answers(f"{line} who 0 {row}", answer)

    def test_without(self):
        self.answers("without who 0 a4", "eve / joe")
        self.answers("without who 0 a2", "eve")
        self.answers("without who 0 a2 a4", "")
        self.answers("without who 0 a1 a3 a5", "joe")
        self.answers("without sold 0 a1 a1", "ann 4 / bob 5")
        self.answers("show who 0", "eve / joe")

    def test_without_tokens_that_stand_nowhere(self):
        self.answers("without who 0 a7", "eve / joe")
        self.answers("without who 0 b1 z9999 a10000 a123456789012345678901 a10 a40", "eve / joe")
        self.answers("without who 0 b1 a2", "eve")

    def test_link(self):
        self.assertEqual(Desk("a").tell("link"), "1918")
        ledger = Ledger("a")
        ledger.source("sold", (("ann", 3), ("bob", 5), ("ann", 4)), "eve", 1)
        desk = Desk("a")
        desk.tell(LINES[0])
        self.assertEqual(desk.tell("link"), str(links(ledger.records())[-1]))
        before = self.desk.tell("link")
        self.assertEqual(self.desk.tell("link"), before)
        self.desk.tell("forget a1 kim 2")
        self.assertNotEqual(self.desk.tell("link"), before)

    def test_names(self):
        self.assertEqual(Desk("a").tell("names"), "")
        self.answers("names", "paid 1, sold 1, who 2")
        self.answers("source a eve 2 1", "0")
        self.answers("names", "a 1, paid 1, sold 1, who 2")

    def test_any_ledger(self):
        source = random.Random(33)
        for _ in range(30):
            calls, ledger = any_calls(source, "a", source.randint(1, 15))
            desk = Desk("a")
            for call in calls:
                self.assertIn(desk.tell(line_of(call)), ("ok", "0") + tuple(str(at) for at in range(1, 16)))
            self.assertEqual(desk.tell("link"), str(links(ledger.records())[-1]))
            self.assertEqual(desk.tell("names"), ", ".join(f"{name} {ledger.versions(name)}" for name in ledger.names()))
            for name in ledger.names():
                for version in range(ledger.versions(name)):
                    self.check_version(source, desk, ledger, f"{name} {version}", ledger.table(name, version))

    def check_version(self, source, desk, ledger, place, table):
        self.assertEqual(desk.tell("show " + place), rows_text(rows_of(table)))
        gone = [f"a{source.randint(1, 20)}" for _ in range(3)]
        pairs = [(token, ZERO) for token in set(gone)]
        left = [row for row, p in table if replaced(p, pairs)]
        self.assertEqual(desk.tell(f"without {place} {' '.join(gone)}"), rows_text(left))
        for row, p in table[:3]:
            place_of_row = f"{place} {cells_text(row)}"
            self.assertEqual(desk.tell("how " + place_of_row), poly_text(p))
            self.assertEqual(desk.tell("why " + place_of_row), " / ".join(" ".join(each) for each in witnesses(p)))
            told = ", ".join(f"{token} {n}:{d}" for token, (n, d) in blames(p))
            self.assertEqual(desk.tell("blame " + place_of_row), told)
            self.assertEqual(poly_at(table, row), p)


def cells_text(row):
    return " ".join(str(cell) for cell in row)


def rows_text(rows):
    return " / ".join(cells_text(row) for row in rows)


def line_of(call):
    """The line that tells a call of a ledger."""
    if call[0] == "source":
        return f"source {call[1]} {call[3]} {call[4]} {rows_text(call[2])}"
    if call[0] == "step":
        inputs = " ".join(f"{alias}={artifact}.{version}" for alias, artifact, version in call[3])
        return f"step {call[1]} {call[4]} {call[5]} {inputs} : {program_text(call[2])}"
    return f"forget {call[1]} {call[2]} {call[3]}"


GOOD = (
    "source sold eve 2 ann 3 / bob 5", "source sold eve 2 1", "forget a1 kim 2", "show who 0", "how who 0 eve",
    "how sold 0 ann 3", "why who 0 eve", "blame who 0 eve", "without who 0 a1 a2", "link", "names",
    "step who joe 2 s=sold.0 p=paid.0 : take s")
BAD_LETTERS = tuple(word for word in WORDS_NO_LETTERS if type(word) is str and "\n" not in word and word.isascii())


class NoLines(DeskCase):

    def test_the_good_lines_are_lines(self):
        for line in GOOD:
            self.assertNotEqual(replayed("a", self.desk.log()).tell(line)[:2], "no")

    def test_what_is_no_text_without_line_feeds(self):
        for value in ANY_VALUES + (None, 5, ("link",), ["link"], b"link", deep(lambda part: (part,), "link")):
            self.is_none(value)
        for line in GOOD:
            for other in (line + "\n", "\n" + line, line.replace(" ", "\n", 1) + "\n", line + "\r", line + "\t", line + "%",
                          line + "\u00e4", line.replace("e", "\u0435") + "\u0435", line.replace(" ", "\u00a0") + "\u00a0",
                          line + "\x7f", line + "\x00", line.replace(" ", "\t") + "\t"):
                self.is_none(other)
        # Also where the text of a program stands.
        for sign in "%\n\t\u00e4\x7f\x1f":
            self.is_none("step who joe 2 s=sold.0 : take s" + sign)
            self.is_none("step who joe 2 s=sold.0 : take " + sign)

    def test_blanks(self):
        self.is_none("")
        self.is_none(" ")
        for line in GOOD:
            self.is_none(" " + line)
            if " : " not in line:
                self.is_none(line + " ")
            ahead = line.split(" : ")[0]
            for at, sign in enumerate(ahead):
                if sign == " ":
                    self.is_none(line[:at] + " " + line[at:])
                    self.is_none(line[:at] + "  " + line[at:])

    def test_other_first_words(self):
        for word in ("", "Source", "SHOW", "shows", "sho", "tell", "log", "table", "records", "replayed", "names,", "merge",
                     "tell show", "answer", "sources", "0", "-"):
            for rest in ("", " who 0", " who 0 eve", " sold eve 2 1"):
                self.is_none(word + rest)

    def test_parts_that_lack_and_parts_too_many(self):
        for line in GOOD:
            words = line.split(" ")
            for many in range(1, len(words)):
                short = " ".join(words[:many])
                if short not in ("how sold 0 ann", "source sold eve 2 ann", "source sold eve 2 ann 3", "without who 0 a1",
                                 "source sold eve 2 ann 3 / bob", "step who joe 2 s=sold.0 p=paid.0 : take"):
                    self.is_none(short)
        for line in ("forget a1 kim 2 3", "forget a1 a2 kim 2", "show who 0 eve", "show who 0 0", "link 0", "link a", "names a",
                     "names 1", "forget a1 kim x 2", "show 0", "show 0 who", "forget kim a1 2"):
            self.is_none(line)

    def test_names_persons_and_aliases(self):
        for word in BAD_LETTERS + ("eve1", "e-e", "Eve", "eVe", "e.e", "0", "-1"):
            for line in ("source {} eve 2 1", "source sold {} 2 1", "step {} joe 2 s=sold.0 : take s",
                         "step who {} 2 s=sold.0 : take s", "step who joe 2 {}=sold.0 : take s",
                         "step who joe 2 s={}.0 : take s", "forget a1 {} 2", "show {} 0", "how {} 0 eve", "why {} 0 eve",
                         "blame {} 0 eve", "without {} 0 a1", "step who joe 2 s=sold.0 {}=sold.0 : take s"):
                self.is_none(line.format(word))

    def test_numbers(self):
        for word in ("", "01", "00", "-0", "-1", "+1", "1.0", "1234567890", "0123456789", "a", "1a", "a1", "1e3", "1_0", "0x1",
                     "--1", "-", "1-", "one", "A"):
            for line in ("source sold eve {} 1", "step who joe {} s=sold.0 : take s", "step who joe 2 s=sold.{} : take s",
                         "forget a1 kim {}", "show who {}", "how who {} eve", "why who {} eve", "blame who {} eve",
                         "without who {} a1"):
                self.is_none(line.format(word))

    def test_cells(self):
        for word in ("", "01", "00", "-0", "-01", "--1", "+1", "1-", "-", "1a", "a1", "A", "aB", "1.5", "1234567890",
                     "-1234567890", "-a", "a-b", "a,", "_", "'a'", "//", "a/b", "1_0", "0x1", ":", "a=b"):
            for line in ("source sold eve 2 {}", "source sold eve 2 1 {}", "source sold eve 2 1 / {}", "how who 0 {}",
                         "why who 0 {}", "blame who 0 {}", "how sold 0 ann {}", "source sold eve 2 {} / 1"):
                self.is_none(line.format(word))

    def test_rows(self):
        for line in ("source sold eve 2", "source sold eve 2 /", "source sold eve 2 / 1", "source sold eve 2 1 /",
                     "source sold eve 2 1 / / 2", "source sold eve 2 / /", "source sold eve 2 1/2", "source sold eve 2 1 /2",
                     "how who 0", "why who 0", "blame who 0", "how who 0 /", "how who 0 eve / joe", "how who 0 / eve"):
            self.is_none(line)

    def test_tokens(self):
        for word in ("", "a", "1", "a0", "a01", "a00", "A1", "aa1", "1a", "a1a", "a-1", "a+1", "a1.", "a1,", "-a1", "a1/", "/",
                     "eve", "0", "all"):
            self.is_none(f"forget {word} kim 2")
            self.is_none(f"without who 0 {word}")
            self.is_none(f"without who 0 a1 {word}")
            self.is_none(f"without who 0 {word} a1")
        self.is_none("without who 0")

    def test_steps(self):
        for line in (
                "step who joe 2 : take s", "step who joe 2 s=sold.0", "step who joe 2 s=sold.0 :", "step who joe 2 s=sold.0: take s",
                "step who joe 2 s=sold.0 :take s", "step who joe 2 take s", "step who joe s=sold.0 : take s",
                "step joe 2 s=sold.0 : take s", "step who joe 2 s=sold : take s", "step who joe 2 sold.0 : take s",
                "step who joe 2 s=sold.0.0 : take s", "step who joe 2 s==sold.0 : take s", "step who joe 2 s=t=sold.0 : take s",
                "step who joe 2 s.sold=0 : take s", "step who joe 2 s=.0 : take s", "step who joe 2 =sold.0 : take s",
                "step who joe 2 s=sold. : take s", "step who joe 2 s=sold.0, : take s", "step who joe 2 s = sold.0 : take s",
                "step who joe 2 s=sold.0,p=paid.0 : take s", "step who joe 2 s=sold.0  : take s", "step : take s", "step :",
                "step who : take s", "step who joe : take s", "step who joe 2 s=sold.0 p : take s"):
            self.is_none(line)

    def test_a_line_that_is_none_is_ahead_of_all_else(self):
        for line in ("step Who joe 2 s=sold.0 : none", "step who joe 2 s=none.01 : none", "step who joe 02 s=sold.0 : take s",
                     "show none 00", "how none 0", "forget z9 Kim 2", "without none 0", "source toolongname eve 0",
                     "source sold eve 0 1 /"):
            self.is_none(line)


class Refused(DeskCase):

    def test_bad_value(self):
        for line in (
                "source abcdefghi eve 2 1", "source sold abcdefghi 2 1", "source sold eve 1 1", "source sold eve 0 1",
                "source sold eve 2 10000", "source sold eve 2 -10000", "source sold eve 2 1 / 999999999",
                "source sold eve 2 abcdefghi", "source sold eve 2 1 2 3 4 5 6 7", "source sold eve 2 1 / 1 2",
                "source sold eve 2 1 2 / 1", "step abcdefghi joe 2 s=sold.0 : take s", "step who abcdefghi 2 s=sold.0 : take s",
                "step who joe 1 s=sold.0 : take s", "step who joe 2 abcdefghi=sold.0 : take s",
                "step who joe 2 s=none.0 : take s", "step who joe 2 s=sold.1 : take s", "step who joe 2 s=sold.999999999 : take s",
                "step who joe 2 s=abcdefghi.0 : take s", "step who joe 2 s=sold.0 s=sold.0 : take s",
                "step who joe 2 s=sold.0 s=paid.0 : take s", "forget a1 abcdefghi 2", "forget a1 kim 1"):
            self.refused(line, "BadValue")

    def test_bad_program(self):
        for text in (
                "take", "take ", "take  s", "take s ", "Take s", "take t", "pick(take s, 2)", "pick(take s,0)", "keep(take s, #0 = -0)",
                "both(take s, take p", "s", "0", "", "pick(take s, 6)", ":", ": take s", "take s : take s", "take s / take s",
                "both(take s, pick(take s, 0))", "take sold", "take abcdefghi", "pick(" * 20 + "take s" + ", 0)" * 20):
            self.refused("step who joe 2 s=sold.0 p=paid.0 : " + text, "BadProgram")

    def test_nothing_there(self):
        for place in ("none 0", "sold 1", "who 2", "who 999999999", "abcdefghi 0", "a" * 2000 + " 0"):
            for line in (f"show {place}", f"how {place} eve", f"why {place} eve", f"blame {place} 1", f"without {place} a1"):
                self.refused(line, "NothingThere")
        for token in ("a7", "b1", "a10000", "a1000000000000", "z9", "a11"):
            self.refused(f"forget {token} kim 2", "NothingThere")

    def test_too_many(self):
        rows = " / ".join(str(cell) for cell in range(400))
        self.answers("source full eve 2 " + rows, "0")
        self.refused("source full eve 2 " + rows + " / 400", "TooMany")
        self.refused("source full eve 2 " + " / ".join(["1"] * 401), "TooMany")
        self.refused("step wide eve 2 t=full.0 : join(take t, take t)", "TooMany")
        self.answers("source one eve 2 " + " / ".join(["1"] * 30), "0")
        self.refused("step wide eve 2 t=one.0 : join(take t, take t)", "TooMany")
        self.answers("step big eve 2 t=sold.0 : pick(take t, 0)", "0")

    def test_too_many_figures(self):
        self.answers("source big eve 2 1", "0")
        line = "step big eve 2 t=big.{} : pick(join(both(take t, take t), take t), 0)"
        version = 0
        while version < 20 and self.desk.tell(line.format(version)) != "no TooMany":
            version += 1
        self.assertTrue(5 < version < 12, version)
        self.refused(line.format(version), "TooMany")

    def test_too_many_tokens(self):
        rows = " / ".join(["1"] * 400)
        for version in range(24):
            self.answers("source many eve 2 " + rows, str(version))
        self.answers("source many eve 2 " + " / ".join(["1"] * 393), "24")
        self.refused("source many eve 2 1", "TooMany")

    def test_too_many_sets(self):
        # Each of nine pairs of tokens suffices: 512 breakers.
        self.answers("source one eve 2 " + " / ".join(f"{cell} a" for cell in range(9)), "0")
        self.answers("source two eve 2 " + " / ".join(f"{cell} b" for cell in range(9)), "0")
        self.answers("step met eve 2 t=one.0 u=two.0 : pick(join(take t, take u, 0=0), 1 3)", "0")
        self.refused("blame met 0 a b", "TooMany")
        self.answers("why met 0 a b", " / ".join(sorted(" ".join(sorted((f"a{at}", f"a{at + 9}"))) for at in range(7, 16))))

    def test_the_error_that_is_due_first(self):
        many = " / ".join(["1"] * 401)
        for line, word in (
                # A program's text that is none is ahead of all that a ledger refuses.
                ("step abcdefghi abcdefghi 0 s=none.0 : none", "BadProgram"),
                ("step who joe 2 s=none.0 : pick(take s, 6)", "BadProgram"),
                # A program that does not fit is behind the inputs, and ahead of person and time.
                ("step abcdefghi joe 2 s=sold.0 : take z", "BadValue"),
                ("step who joe 2 s=none.0 : take z", "BadValue"),
                ("step who abcdefghi 0 s=sold.0 : take z", "BadProgram"),
                ("step who abcdefghi 0 s=sold.0 : take s", "BadValue"),
                ("source abcdefghi eve 2 " + many, "BadValue"), ("source sold abcdefghi 2 " + many, "BadValue"),
                ("source sold eve 0 " + many, "BadValue"), ("source sold eve 2 " + many, "TooMany"),
                ("forget a9 abcdefghi 0", "NothingThere"), ("forget a1 abcdefghi 0", "BadValue")):
            self.refused(line, word)


class Logs(DeskCase):

    def test_the_lines_that_were_answered(self):
        self.assertEqual(Desk("a").log(), "")
        self.assertEqual(self.desk.log(), "".join(line + "\n" for line in LINES))
        more = ("show who 0", "show who 9", "names", "step who joe 2 s=sold.0 : none", "link", "show who 0", "forget a1 kim 2")
        for line in more:
            self.desk.tell(line)
            self.raises(BadLine, 0, self.desk.tell, " " + line)
            self.raises(BadLine, 0, self.desk.tell, line + "\n")
        self.assertEqual(self.desk.log(), "".join(line + "\n" for line in LINES + more))

    def test_the_log_keeps_the_lines_of_what_is_forgotten(self):
        self.desk.tell("forget a2 kim 2")
        self.assertIn("bob 5", self.desk.log())

    def test_replayed(self):
        self.desk.tell("forget a2 kim 3")
        self.desk.tell("show who 7")
        desk = replayed("a", self.desk.log())
        self.assertIs(type(desk), Desk)
        self.assertEqual(desk.log(), self.desk.log())
        for line in GOOD:
            self.assertEqual(desk.tell(line), self.desk.tell(line))
        self.assertEqual(desk.log(), self.desk.log())
        self.assertEqual(replayed("b", filled().log()).tell("how sold 0 ann 3"), "b1")

    def test_no_lines(self):
        self.assertEqual(replayed("a", "").log(), "")
        self.assertEqual(replayed("a", "").tell("names"), "")

    def test_two_desks_at_once(self):
        one, other = filled(), filled()
        one.tell("source new eve 2 1")
        self.assertEqual(other.tell("names"), "paid 1, sold 1, who 2")

    def test_a_line_that_is_none(self):
        log = self.desk.log()
        for line in ("", " ", "names ", "none", "show who", "link 1", "step who joe 2 : take s", "names\r", "%", "show who 00"):
            for place in range(5):
                lines = log.split("\n")[:-1]
                lines.insert(place, line)
                self.raises(BadLine, place, replayed, "a", "".join(each + "\n" for each in lines))
        self.raises(BadLine, 1, replayed, "a", "names\n\nnames\n")
        self.raises(BadLine, 0, replayed, "a", "\n")

    def test_a_last_line_without_its_line_feed(self):
        log = self.desk.log()
        self.raises(BadLine, 3, replayed, "a", log[:-1])
        self.raises(BadLine, 4, replayed, "a", log + "names")
        self.raises(BadLine, 4, replayed, "a", log + "none")
        self.raises(BadLine, 0, replayed, "a", "names")
        self.raises(BadLine, 0, replayed, "a", "none\nnames")
        self.raises(BadLine, 0, replayed, "a", " ")

    def test_what_is_no_text(self):
        for value in ANY_VALUES + (("names\n",), ["names\n"], b"names\n", deep(lambda part: (part,), "names\n")):
            if value != "":
                self.raises(BadLine, 0, replayed, "a", value)
        self.raises(BadLine, 1, replayed, "a", "names\nlink\u00e4\n")

    def test_names_of_desks(self):
        for value in WORDS_NO_LETTERS + ANY_VALUES + ("aa", deep(lambda part: (part,), "a")):
            if value != "a":
                self.raises(BadValue, 0, Desk, value)
                for log in ("", "none", None, "names\n"):
                    self.raises(BadValue, 0, replayed, value, log)
        for name in "az":
            self.assertEqual(Desk(name).tell("names"), "")

    def test_polynomials_are_told_by_their_texts(self):
        self.assertEqual(read_poly(self.desk.tell("how who 0 eve")), read_poly(WHY))


if __name__ == "__main__":
    unittest.main()
