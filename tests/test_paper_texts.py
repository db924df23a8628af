"""Points [49], [50]: the texts of arenas and papers."""

import re
import unittest

from neverleaves.arenas import check_arena
from neverleaves.errors import BadText
from neverleaves.papertexts import read_arena, read_paper, write_arena, write_paper
from neverleaves.solving import told_paper
from tests.some_arenas import some_games
from tests.test_arenas import RIGHT_ARENAS

BIG = 10 ** 60 - 1

ARENAS = (
    ((), ""),
    (((),), "at 0\n"),
    (((), ()), "at 0\nat 1\n"),
    ((((-1,),),), "at 0 option -1\n"),
    ((((0,),),), "at 0 option 0\n"),
    ((((-1, 0),),), "at 0 option -1 0\n"),
    ((((0, 1), (-1,)), ()), "at 0 option 0 1 option -1\nat 1\n"),
    ((((2,), (0, 1, 2), (2,)), (), ((-1, 1),)), "at 0 option 2 option 0 1 2 option 2\nat 1\nat 2 option -1 1\n"),
    (tuple((((at + 1) % 12,),) for at in range(12)),
     "".join(f"at {at} option {(at + 1) % 12}\n" for at in range(12))),
)

LABELS = (
    (("holds", 0), "holds 0"),
    (("holds", 12), "holds 12"),
    (("holds", -3), "holds -3"),
    (("driven", 0, ()), "driven 0 replies"),
    (("driven", 2, (1, 1)), "driven 2 replies 1 1"),
    (("driven", -2, (-1, 0, -1)), "driven -2 replies -1 0 -1"),
    (("comes", 0, -1), "comes 0 option -1"),
    (("comes", 11, 2), "comes 11 option 2"),
    (("away", ()), "away replies"),
    (("away", (-1,)), "away replies -1"),
    (("away", (3, 10, 2)), "away replies 3 10 2"),
    (("even", (), 0), "even option 0"),
    (("even", (7,), 3), "even 7 option 3"),
    (("even", (0, 3), 1), "even 0 3 option 1"),
    (("even", (0, -3, 10), -1), "even 0 -3 10 option -1"),
    (("odd", (), ()), "odd replies"),
    (("odd", (5,), ()), "odd 5 replies"),
    (("odd", (), (5,)), "odd replies 5"),
    (("odd", (0, 1), (-1, 2)), "odd 0 1 replies -1 2"),
    (("keeps", 0, 0), "keeps 0 option 0"),
    (("keeps", 1000, 59), "keeps 1000 option 59"),
    (("keeps", -1, -1), "keeps -1 option -1"),
    (("drained", 0, ()), "drained 0 replies"),
    (("drained", 40000200, (0,)), "drained 40000200 replies 0"),
    (("drained", BIG, (-BIG, BIG)), f"drained {BIG} replies -{BIG} {BIG}"),
    (("even", (BIG, -BIG), BIG), f"even {BIG} -{BIG} option {BIG}"),
)


class Texts(unittest.TestCase):
    def bad(self, read, text, line):
        with self.subTest(text=text):
            with self.assertRaises(BadText) as caught:
                read(text)
            self.assertIs(type(caught.exception), BadText)
            self.assertEqual((caught.exception.line, caught.exception.column), (line, 1))

    def reads(self, read, text, value):
        with self.subTest(text=text):
            self.assertEqual(repr(read(text)), repr(value))


class RightTexts(Texts):
    def test_arenas(self):
        for arena, text in ARENAS:
            self.assertEqual(write_arena(arena), text)
            self.reads(read_arena, text, arena)

    def test_more_arenas(self):
        for arena in RIGHT_ARENAS:
            self.reads(read_arena, write_arena(arena), arena)

    def test_labels(self):
        for label, words in LABELS:
            self.assertEqual(write_paper((label,)), f"at 0 {words}\n")
            self.reads(read_paper, f"at 0 {words}\n", (label,))

    def test_labels_of_any_kinds_beside_each_other(self):
        labels = tuple(label for label, _ in LABELS)
        text = "".join(f"at {at} {words}\n" for at, (_, words) in enumerate(LABELS))
        self.assertEqual(write_paper(labels), text)
        self.reads(read_paper, text, labels)

    def test_the_empty_ones(self):
        self.assertEqual(write_arena(()), "")
        self.assertEqual(write_paper(()), "")
        self.reads(read_arena, "", ())
        self.reads(read_paper, "", ())

    def test_the_interface(self):
        self.assertEqual(write_paper((("driven", 2, (1, 1)), ("even", (0, 3), 1))),
                         "at 0 driven 2 replies 1 1\nat 1 even 0 3 option 1\n")
        self.bad(read_arena, "at 0 option 0 2\n", 1)

    def test_told_papers_and_their_arenas(self):
        for arena, goal in some_games(49, 100):
            paper = told_paper(arena, goal)
            self.assertEqual(repr(read_arena(write_arena(arena))), repr(arena))
            self.assertEqual(repr(read_paper(write_paper(paper))), repr(paper))

    def test_two_hundred_lines(self):
        paper = (("keeps", 3, 1),) * 200
        self.assertTrue(write_paper(paper).endswith("at 199 keeps 3 option 1\n"))
        self.reads(read_paper, write_paper(paper), paper)


class WrongTexts(Texts):
    def bad_line(self, read, line, right=("at 0", "at 1", "at 2")):
        """Of three lines this one is wrong, in the place that its number tells; others may be wrong behind it."""
        for at in range(3):
            lines = list(right)
            lines[at] = line.replace("#", str(at))
            text = "\n".join(lines) + "\n"
            self.bad(read, text, at + 1)
            self.bad(read, "\n".join(lines[:at + 1] + ["what"] * (2 - at)) + "\n", at + 1)
            if lines[-1] != "":
                self.bad(read, text[:-1], at + 1)

    def bad_label(self, words):
        self.bad_line(read_paper, "at # " + words, ("at 0 holds 0", "at 1 away replies", "at 2 keeps 1 option 0"))

    def test_numbers(self):
        for read, rest in ((read_arena, ""), (read_arena, " option 0"), (read_paper, " holds 0")):
            right = [f"at {at}{rest}" for at in range(3)]
            for number in ("3", "-1", "00", "01", "02", "-0", "+1", "1.", "", "x", "0x", "10", "1e0", "9" * 60):
                self.bad_line(read, f"at {number}{rest}", right)
            for line in (
                f"at{rest}", f"at at #{rest}", f"# at{rest}", f"At #{rest}", f"AT #{rest}", f"a #{rest}", f"#{rest}",
                f"att #{rest}", f"at  #{rest}", f" at #{rest}", f"at #{rest} ", f"at#{rest}", f"at\t#{rest}", f"at # {rest}",
                f"at #\t{rest}", f"at #{rest}\r", f"at #,{rest}", f"at (#){rest}", rest, rest.strip(), "", " ", "at", "at ",
            ):
                self.bad_line(read, line, right)

    def test_numbers_that_are_not_the_next(self):
        for read, rest in ((read_arena, ""), (read_paper, " holds 0")):
            self.bad(read, f"at 1{rest}\n", 1)
            self.bad(read, f"at 0{rest}\nat 0{rest}\n", 2)
            self.bad(read, f"at 0{rest}\nat 2{rest}\n", 2)
            self.bad(read, f"at 0{rest}\nat 1{rest}\nat 1{rest}\n", 3)
            self.bad(read, f"at 1{rest}\nat 0{rest}\n", 1)

    def test_options_of_another_form(self):
        for words in (
            "option", "option 0 option", "option option 0", "0", "0 option 0", "option 0,1", "option 0  1", "option  0",
            "option 0 option  1", "option 0 ", " option 0", "options 0", "Option 0", "option x", "option 0 x", "x option 0",
            "option (0)", "option 0 replies 1", "holds 0", "option 00", "option 01", "option -0", "option 0 02", "option +1",
            "option 1.0", "option -", "option - 1", "option --1", "option 1-", "option " + "1" * 61, "option " + "9" * 60,
            "option -" + "1" * 61, "option -" + "9" * 60, "option 0\t1", "option 0 at 1", "at 0",
        ):
            self.bad_line(read_arena, "at # " + words)

    def test_successors(self):
        for words in (
            "option 1 0", "option 0 0", "option 0 1 1", "option 2 1", "option 0 -1", "option -1 -1", "option -2", "option -2 0",
            "option -2 -1", "option 3", "option 0 3", "option 0 1 2 3", "option 4", "option 100", "option 0 option 3",
            "option 3 option 0", "option 0 option 2 1", "option -1 option -1 1 0", "option 1 0 option 0",
        ):
            self.bad_line(read_arena, "at # " + words)

    def test_successors_and_the_number_of_lines(self):
        for many in range(1, 6):
            lines = [f"at {at}" for at in range(1, many)]
            self.reads(read_arena, "\n".join([f"at 0 option {many - 1}"] + lines) + "\n", (((many - 1,),),) + ((),) * (many - 1))
            self.bad(read_arena, "\n".join([f"at 0 option {many}"] + lines) + "\n", 1)
            self.bad(read_arena, "\n".join([f"at 0 option {many + 1}"] + lines) + "\n", 1)
        # A line that is wrong counts as well, and so does one without a newline.
        self.bad(read_arena, "at 0 option 2\nat 1\nwhat\n", 3)
        self.bad(read_arena, "at 0 option 3\nat 1\nwhat\n", 1)
        self.bad(read_arena, "at 0 option 2\nat 1\nat 2", 3)
        self.bad(read_arena, "at 0 option 3\nat 1\nat 2", 1)
        self.bad(read_arena, "at 0 option 1\n\n", 2)
        self.bad(read_arena, "at 0 option 2\n\n", 1)

    def test_labels_with_a_part_too_few_or_too_many(self):
        for words in (
            "holds", "holds 0 1", "holds option 0", "holds option", "holds 0 option 0", "holds replies", "holds holds 0",
            "driven", "driven 1", "driven replies", "driven replies 1", "driven 1 2 replies 0", "driven 1 option 0",
            "driven 1 replies 0 replies", "driven 1 replies 0 replies 1", "driven 1 0 0", "driven 1 1",
            "comes", "comes 1", "comes option", "comes option 0", "comes 1 option", "comes 1 2 option 0", "comes 1 option 0 1",
            "comes 1 replies 0", "comes 1 0", "comes 1 option 0 option 0", "comes 1 option option 0",
            "away", "away 1", "away 0 replies", "away 1 replies 0", "away option 0", "away replies 0 replies 1", "away replies replies",
            "even", "even option", "even 1", "even 1 option", "even 1 option 0 1", "even option 0 1", "even 1 2 replies 0",
            "even 0 option 0 option 0", "even 1 2", "even even option 0",
            "odd", "odd 1", "odd 1 2", "odd option 0", "odd 1 option 0", "odd 1 replies 2 replies 3", "odd replies replies",
            "keeps", "keeps 1", "keeps option", "keeps option 0", "keeps 1 option", "keeps 1 2 option 0", "keeps 1 option 0 1",
            "keeps 1 replies 0", "keeps 1 0",
            "drained", "drained 1", "drained replies", "drained replies 1", "drained 1 2 replies 0", "drained 1 option 0",
            "drained 1 replies 0 replies 1",
        ):
            self.bad_label(words)

    def test_labels_with_words_of_none_of_the_forms(self):
        for words in (
            "hold 0", "Holds 0", "HOLDS 0", "label 0", "stay 0", "option 0", "replies 0", "0", "-1", "x", "at 0", "hold", "h",
            "driven 1 reply 0", "driven 1 Replies 0", "comes 1 options 0", "comes 1 Option 0", "even 1 options 0",
            "odd 1 reply 0", "keeps x option 0", "keeps 1 option x", "driven x replies 0", "driven 1 replies x", "away replies x",
            "away replies 0 x", "even x option 0", "even 0 x option 0", "odd x replies", "odd replies 0 x", "holds x",
            "holds (0)", "away replies 0,1", "even (0) option 1", "keeps 1.0 option 0",
        ):
            self.bad_label(words)

    def test_labels_with_a_space_too_many(self):
        for _, words in LABELS:
            parts = words.split(" ")
            for at in range(len(parts) + 1):
                self.bad_label(" ".join(parts[:at] + [""] + parts[at:]))
            for at in range(len(parts) - 1):
                self.bad_label(" ".join(parts[:at]) + " " * (at > 0) + parts[at] + "\t" + " ".join(parts[at + 1:]))

    def test_integers_in_labels(self):
        for integer in ("00", "01", "-0", "-01", "007", "+1", "1" * 61, "-" + "1" * 61, "1" + "0" * 60, "--1", "-", "1-", "1_0", "0x1"):
            for words in (
                "holds {}", "driven {} replies 0", "driven 1 replies {}", "driven 1 replies 0 {}", "driven 1 replies {} 0",
                "comes {} option 0", "comes 1 option {}", "away replies {}", "away replies 1 {} 1", "even {} option 0",
                "even 0 {} 0 option 0", "even 0 option {}", "odd {} replies", "odd 0 {} replies", "odd 0 replies {}",
                "keeps {} option 0", "keeps 0 option {}", "drained {} replies 0", "drained 0 replies {}",
            ):
                self.bad_label(words.format(integer))

    def test_sixty_digits_are_read(self):
        for integer in ("1" * 60, "-" + "9" * 60, "1" + "0" * 59):
            self.reads(read_paper, f"at 0 keeps {integer} option {integer}\n", (("keeps", int(integer), int(integer)),))
            self.reads(read_paper, f"at 0 odd {integer} replies {integer}\n", (("odd", (int(integer),), (int(integer),)),))

    def test_empty_lines(self):
        for read, rest in ((read_arena, ""), (read_paper, " holds 0")):
            self.bad(read, "\n", 1)
            self.bad(read, "\n\n", 1)
            self.bad(read, f"\nat 0{rest}\n", 1)
            self.bad(read, f"at 0{rest}\n\n", 2)
            self.bad(read, f"at 0{rest}\n\nat 1{rest}\n", 2)
            self.bad(read, f"at 0{rest}\nat 1{rest}\n\n\n", 3)
            self.bad(read, " ", 1)
            self.bad(read, f"at 0{rest}\n ", 2)

    def test_no_newline_at_the_end(self):
        for read, rest in ((read_arena, ""), (read_paper, " holds 0")):
            self.bad(read, f"at 0{rest}", 1)
            self.bad(read, f"at 0{rest}\nat 1{rest}", 2)
            self.bad(read, f"at 0{rest}\nat 1{rest}\nat 2{rest}", 3)
            self.bad(read, f"at 0{rest}\nwhat\nat 2{rest}", 2)
            self.bad(read, f"at 0{rest}\n\nat 2{rest}", 2)
            self.bad(read, "what", 1)
            self.bad(read, "at", 1)

    def test_other_ends_of_lines(self):
        for read, rest in ((read_arena, ""), (read_paper, " holds 0")):
            for end in ("\r\n", "\r", "\x0b", "\x0c", "\x1c", "\x1e", ";"):
                self.bad(read, f"at 0{rest}{end}", 1)
                self.bad(read, f"at 0{rest}{end}at 1{rest}\n", 1)
                self.bad(read, f"at 0{rest}\nat 1{rest}{end}", 2)
                self.bad(read, f"at 0{rest}\nat 1{rest}{end}\n", 2)

    def test_a_text_of_the_other_kind(self):
        self.bad(read_arena, "at 0\nat 1 holds 0\n", 2)
        self.bad(read_paper, "at 0 holds 0\nat 1\n", 2)
        self.bad(read_paper, "at 0 option 0\n", 1)


INTEGER = "(?:0|-?[1-9][0-9]{0,59})"
OPTIONS = re.compile(f"(?: option(?: {INTEGER})+)*")
LABEL = re.compile(
    f" (?:holds {INTEGER}|(?:driven|drained) {INTEGER} replies(?: {INTEGER})*|(?:comes|keeps) {INTEGER} option {INTEGER}"
    f"|away replies(?: {INTEGER})*|even(?: {INTEGER})* option {INTEGER}|odd(?: {INTEGER})* replies(?: {INTEGER})*)")


class AgainstTheDocument(Texts):
    """Texts with one change at any place."""

    ARENA = "at 0 option 0 1 option -1\nat 1\nat 2 option 2 option 0 2\n"
    PAPER = "at 0 driven 2 replies 1 -1\nat 1 even 0 3 option 1\nat 2 holds 0\nat 3 away replies 10\n"

    def changed(self, text):
        for place in range(len(text) + 1):
            yield text[:place] + text[place + 1:]
            for character in "\n 012-ax,":
                yield text[:place] + character + text[place:]
                yield text[:place] + character + text[place + 1:]
        for line in text.splitlines(keepends=True):
            yield text.replace(line, "")
            yield text.replace(line, line + line)
            for word in line.split():
                yield text.replace(line, line.replace(word, "", 1))
                yield text.replace(line, line.replace(word + " ", "", 1))
                yield text.replace(line, line.replace(word, word + " " + word, 1))

    def first_wrong(self, text, is_right):
        lines = text.split("\n")
        ended = lines[-1] == ""
        if ended:
            lines = lines[:-1]
        for at, line in enumerate(lines):
            start = f"at {at}"
            if not line.startswith(start) or not is_right(line[len(start):], len(lines)):
                return at + 1
        return None if ended else len(lines)

    def options_are_right(self, rest, many):
        if not OPTIONS.fullmatch(rest):
            return False
        options = tuple(tuple(int(word) for word in part.split()) for part in rest.split(" option")[1:])
        return all(list(option) == sorted(set(option)) and -1 <= min(option) and max(option) < many for option in options)

    def label_is_right(self, rest, many):
        return LABEL.fullmatch(rest) is not None

    def check(self, read, write, text, is_right):
        line = self.first_wrong(text, is_right)
        if line is None:
            self.assertEqual(write(read(text)), text)
        else:
            self.bad(read, text, line)
        return line is None

    def test_arenas(self):
        right = [self.check(read_arena, write_arena, text, self.options_are_right) for text in self.changed(self.ARENA)]
        self.assertGreater(sum(right), 20)
        self.assertGreater(len(right) - sum(right), 500)
        for text in self.changed(self.ARENA):
            if self.first_wrong(text, self.options_are_right) is None:
                self.assertIsNone(check_arena(read_arena(text)))

    def test_papers(self):
        right = [self.check(read_paper, write_paper, text, self.label_is_right) for text in self.changed(self.PAPER)]
        self.assertGreater(sum(right), 40)
        self.assertGreater(len(right) - sum(right), 1000)


if __name__ == "__main__":
    unittest.main()
