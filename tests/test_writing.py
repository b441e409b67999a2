"""Point 6.3: desk_text and read_desk, there and back, and texts that are no writing of a desk."""

import collections
import random
import re
import unittest

from lockstretch.desks import Desk
from lockstretch.errors import LockError, NoText
from lockstretch.writing import desk_text, read_desk
from plain_desk import WIDTH, PlainDesk, Refused
from rows import NAMED, Pair
from small import DeskTest, desk_of, state_of

HUGE = 10 ** 5000
NUMBER = r"(?:0|[1-9][0-9]*)"
# Nothing is refused for a handle below 0, which dup can be told by at.
HANDLE = r"(?:0|-?[1-9][0-9]*)"
STRETCH = rf"{NUMBER}\.\.(?:{NUMBER})?"
LINES = {
    "begin": r"begin",
    "attach": rf"attach ({NUMBER}) ([a-z]+) (read|write|both)",
    "dup": rf"dup ({NUMBER}) ({HANDLE}) ({HANDLE}|-)",
    "close": rf"close ({NUMBER}) ({HANDLE})",
    "fork": rf"fork ({NUMBER})",
    "end": rf"end ({NUMBER})",
    "lock": rf"lock ({NUMBER}) ({HANDLE}) (shared|alone) ({STRETCH}) (task|mark) (yes|no)",
    "unlock": rf"unlock ({NUMBER}) ({HANDLE}) ({STRETCH}) (task|mark)",
    "cancel": rf"cancel ({NUMBER})",
    "lock_whole": rf"lock_whole ({NUMBER}) ({HANDLE}) (shared|alone) (yes|no)",
    "unlock_whole": rf"unlock_whole ({NUMBER}) ({HANDLE})",
}
TEXT = (
    "desk a no\n"
    "begin\n"
    "attach 0 a both\n"
    "attach 0 no read\n"
    "begin\n"
    "attach 1 a both\n"
    "dup 0 0 -\n"
    "dup 0 2 7\n"
    "lock 0 0 alone 0..10 task no\n"
    "lock 1 0 shared 5.. mark yes\n"
    "unlock 0 7 0..2 task\n"
    "lock_whole 0 1 alone no\n"
    "unlock_whole 0 1\n"
    "cancel 1\n"
    "?fork 0\n"
    "?close 0 7\n"
    "?lock_whole 2 0 shared yes\n"
    "?end 1\n"
)


def plain_value(place, part):
    """The value that a part of a line stands for; words with a meaning elsewhere are names at a file's place."""
    if re.fullmatch(HANDLE, part):
        return int(part)
    if ".." in part:
        first, end = part.split("..")
        return (int(first), int(end) if end else None)
    if place == "file":
        return part
    return {"-": None, "yes": True, "no": False}.get(part, part)


def stretches_in(values):
    return [value for value in values if isinstance(value, tuple)]


def is_writing(text):
    """Whether a text is the writing of a desk, by the document's words alone; None where cells run out."""
    head = re.match(r"(fair )?desk((?: [a-z]{1,8})*)\n", text)
    if not head:
        return False
    names = tuple(head[2].split())
    rows = re.fullmatch(r"((?:[^\n]+\n)*)", text[head.end():])
    if not rows or len(set(names)) != len(names):
        return False
    plain = PlainDesk(names, bool(head[1]))
    later = False
    for row in rows[1].split("\n")[:-1]:
        later = later or row.startswith("?")
        if later != row.startswith("?"):
            return False
        row = row[1:] if later else row
        word = row.split(" ")[0]
        match = re.fullmatch(LINES.get(word, "(?!)"), row)
        if not match:
            return False
        values = tuple(
            plain_value("file" if (word, place) == ("attach", 1) else "", part)
            for place, part in enumerate(match.groups())
        )
        if any(first >= WIDTH or (end or 0) >= WIDTH for first, end in stretches_in(values)):
            return None
        try:
            plain.do(word, values)
        except Refused:
            return False
    return True


class TextTest(DeskTest):
    def test_all_lines(self):
        desk = Desk(("a", "no"))
        desk.begin()
        desk.attach(0, "a")
        desk.attach(0, "no", mode="read")
        desk.begin()
        desk.attach(1, "a")
        desk.dup(0, 0)
        desk.dup(0, 2, at=7)
        desk.lock(0, 0, "alone", (0, 10))
        desk.lock(1, 0, "shared", (5, None), by="mark", wait=True)
        desk.unlock(0, 7, (0, 2))
        desk.lock_whole(0, 1, "alone")
        desk.unlock_whole(0, 1)
        desk.cancel(1)
        desk.fork(0)
        desk.close(0, 7)
        desk.lock_whole(2, 0, "shared", wait=True)
        desk.end(1)
        for again in range(4):
            desk.back()
        self.assertEqual(desk_text(desk), TEXT)
        self.assertEqual(read_desk(TEXT), desk)
        self.assertEqual(state_of(read_desk(TEXT)), state_of(desk))

    def test_desks_of_which_nothing_is_done(self):
        for files, fair, text in (
            ((), False, "desk\n"), ((), True, "fair desk\n"), (("a",), False, "desk a\n"),
            (("b", "a"), True, "fair desk b a\n"), (("fair",), False, "desk fair\n"),
            (("desk", "fair"), True, "fair desk desk fair\n"), (("fair", "desk"), False, "desk fair desk\n"),
            (("abcdefgh", "yes", "no"), False, "desk abcdefgh yes no\n"),
        ):
            desk = Desk(files, fair=fair)
            self.assertEqual(desk_text(desk), text)
            self.assertEqual(read_desk(text), desk)
            self.assertIs(read_desk(text) == Desk(files, fair=not fair), False)

    def test_neither_changes_the_desk(self):
        desk = read_desk(TEXT)
        ahead = state_of(desk)
        other = read_desk(desk_text(desk))
        other.again()
        self.assertEqual(state_of(desk), ahead)

    def test_files_called_like_other_words(self):
        names = ("yes", "no", "begin", "desk", "fair", "task", "both")
        desk = Desk(names)
        desk.begin()
        for name in names:
            desk.attach(0, name)
        self.assertEqual(read_desk(desk_text(desk)), desk)
        self.assertIn("attach 0 both both\n", desk_text(desk))

    def test_numbers_of_any_size(self):
        desk = desk_of(1)
        for number in (9, 10, 10 ** 63, 10 ** 64 - 1, 10 ** 64, 10 ** 64 + 1, 10 ** 128, 10 ** 200 + 7 * 10 ** 64):
            desk.lock(0, 0, "alone", (number, 3 * number + 1))
            self.assertIn(f" {number}..{3 * number + 1} ", desk_text(desk))
        desk.lock(0, 0, "shared", (HUGE - 1, HUGE))
        desk.dup(0, 0, at=HUGE)
        text = desk_text(desk)
        self.assertIn(" " + "9" * 5000 + "..1" + "0" * 5000 + " ", text)
        self.assertEqual(read_desk(text), desk)
        self.assertEqual(read_desk(text).handles(0), ((0, 0), (HUGE, 0)))

    def test_handles_below_0(self):
        desk = desk_of(1)
        for number in (-1, -10, 1 - HUGE):
            self.assertEqual(desk.dup(0, 0, at=number), number)
        self.assertIn("dup 0 0 -1\ndup 0 0 -10\ndup 0 0 -999", desk_text(desk))
        self.assertEqual(read_desk(desk_text(desk)), desk)
        self.assertEqual(read_desk(desk_text(desk)).handles(0), ((1 - HUGE, 0), (-10, 0), (-1, 0), (0, 0)))
        self.assertEqual(desk.dup(0, -10), 1)

    def test_there_and_back_for_rows_of_deeds(self):
        for seed in range(150):
            pair = Pair(seed, files=("a", "no"), fair=seed % 2 == 0)
            for at in range(seed % 60):
                pair.step()
            for at in range(min(seed % 5, pair.desk.counts()[0])):
                pair.desk.back()
            text = desk_text(pair.desk)
            desk = read_desk(text)
            self.assertEqual(desk, pair.desk)
            self.assertEqual(desk_text(desk), text)
            self.assertEqual(state_of(desk), state_of(pair.desk))
            self.assertEqual(desk.counts()[1], text.count("\n?"))


class NoTextTest(DeskTest):
    def assert_no_text(self, text):
        with self.assertRaises(LockError, msg=repr(text)) as caught:
            read_desk(text)
        self.assertIs(type(caught.exception), NoText, repr(text))

    def test_first_lines(self):
        for text in (
            "", "\n", "desk", "fair desk", "fair\n", "fair", " desk\n", "desk \n", "desk  a\n", "desk a \n", "Desk a\n",
            "desks a\n", "fairdesk a\n", "fair  desk a\n", "desk a a\n", "desk a b a\n", "desk A\n", "desk a1\n",
            "desk a_b\n", "desk abcdefghi\n", "desk \u00e4\n", "desk a\r\n", "desk a\tb\n", "desk a,b\n", "desk a\n\n",
            "\ndesk a\n", "desk a\n ", "desk a\n\n\n", "fair fair desk\n", "?desk a\n", "desk ?\n", "begin\n", "a\n",
            "desk a\x0b\n", "desk a\u2028begin\n", "desk a\x00\n", "DESK\n", "unfair desk a\n", "yes desk a\n",
        ):
            self.assert_no_text(text)

    def test_lines_of_deeds(self):
        start = "desk a b\nbegin\nattach 0 a both\nattach 0 b both\n"
        for line in (
            "begin 0", "begin ", " begin", "Begin", "?", "? begin", "??begin", "", "begin?", "start", "beginbegin",
            "attach 0 a", "attach 0 a both both", "attach 0 c both", "attach 1 a both", "attach 0 a rw", "attach 0 a -",
            "attach 00 a both", "attach +0 a both", "attach -0 a both", "attach 0 A both", "attach 0  a both",
            "attach a 0 both", "attach 0 a both ", "attach\t0 a both", "attach 0 a Both", "attach no a both",
            "dup 0 0", "dup 0 0 no", "dup 0 0 None", "dup 0 0 00", "dup 0 0 +1", "dup 0 0 01", "dup 0 9 -", "dup 0 - -",
            "dup 0 0 --", "dup 0 0 1 ", "dup 0 0 -0", "dup 0 0 1_0", "dup 0 0 \u0661", "dup 0 0 \u00b2", "dup 0 0 1.0",
            "close 0", "close 0 2", "close 1 0", "close 0 -1", "close 0 -", "close 0 0 0", "close 0 1e0", "close 0 0x0",
            "fork", "fork 1", "fork -", "fork 0 0", "fork -1", "end", "end 1", "end 0 0", "cancel 0", "cancel 1",
            "lock 0 0 alone 0..5 task", "lock 0 0 alone 0..5", "lock 0 0 alone 0..5 task no no",
            "lock 0 0 alone 0..5 task -", "lock 0 0 alone 0..5 task True", "lock 0 0 alone 0..5 task 0",
            "lock 0 0 alone 5..5 task no", "lock 0 0 alone 5..3 task no", "lock 0 0 alone ..5 task no",
            "lock 0 0 alone .. task no", "lock 0 0 alone 0 task no", "lock 0 0 alone 0.5 task no",
            "lock 0 0 alone 0...5 task no", "lock 0 0 alone 00..5 task no", "lock 0 0 alone 0..05 task no",
            "lock 0 0 alone 0..+5 task no", "lock 0 0 alone -1..5 task no", "lock 0 0 alone 0..- task no",
            "lock 0 0 alone -..5 task no", "lock 0 0 alone - task no", "lock 0 0 alone 0 ..5 task no",
            "lock 0 0 alone 0..5.. task no", "lock 0 0 alone 0..5..6 task no", "lock 0 0 alone (0, 5) task no",
            "lock 0 0 Alone 0..5 task no", "lock 0 0 alone 0..5 file no", "lock 0 0 - 0..5 task no",
            "unlock 0 0 0..5", "unlock 0 0 0..5 task no", "unlock 0 0 5..5 task", "unlock 0 0 0..5 hand",
            "lock_whole 0 0 alone", "lock_whole 0 0 alone maybe", "lock_whole 0 0 both no", "lock_whole 0 2 alone no",
            "unlock_whole 0", "unlock_whole 0 2", "unlock_whole 0 0 0", "lock-whole 0 0 alone no", "back", "again",
            "probe 0 0 alone 0..5 task", "may 0 0 read 0..5", "end " + "1" * 5000, "end 0" + "0" * 5000,
        ):
            self.assertEqual(desk_text(read_desk(start)), start)
            self.assert_no_text(start + line + "\n")
            self.assert_no_text(start + "?" + line + "\n")

    def test_asks_that_would_be_refused(self):
        start = desk_text(desk_of(2)) + "lock 0 0 alone 0..1 task no\nlock 1 0 alone 1..2 task no\n"
        held = "lock 1 0 alone 0..1 task no\n"
        ask = "lock 0 0 alone 1..2 task yes\n"
        stuck = "lock 1 0 alone 0..1 task yes\n"
        for text in (start + held, start + ask + stuck, start + ask + "begin\n" + "fork 0\n", start + "?" + held,
                     start + "?" + ask + "?" + stuck, start + ask + "?" + stuck):
            self.assert_no_text(text)
        for text in (start + ask, start + stuck, start + "?" + ask, start + "?" + stuck):
            self.assertEqual(desk_text(read_desk(text)), text)

    def test_all_that_can_be_done_again_stands_behind(self):
        start = "desk a\nbegin\n"
        self.assertEqual(read_desk(start + "?begin\n?end 1\n").counts(), (1, 2))
        self.assert_no_text(start + "?begin\nbegin\n")
        self.assert_no_text(start + "?begin\nend 0\n")
        self.assert_no_text(start + "?end 1\n?begin\n")
        self.assert_no_text(start + "?begin\n?end 2\n")

    def test_the_last_line_feed(self):
        for text in (TEXT, "desk a\nbegin\n", "desk a\n"):
            read_desk(text)
            self.assert_no_text(text[:-1])
            self.assert_no_text(text + "\n")
            self.assert_no_text(text[:-1] + "\r\n")
            self.assert_no_text(text.replace("\n", "\r\n"))
            self.assert_no_text(text + " ")
            self.assert_no_text("\n" + text)
            self.assert_no_text("\ufeff" + text)

    def test_texts_changed_at_random(self):
        dice = random.Random(6)
        seen = collections.Counter()
        for seed in range(250):
            pair = Pair(seed, files=("a", "no"), fair=seed % 2 == 0)
            for at in range(25):
                pair.step()
            text = desk_text(pair.desk)
            self.assertIn(is_writing(text), (True, None))
            for at in range(12):
                changed = self.changed(text, dice)
                wanted = is_writing(changed)
                seen[wanted] += 1
                if wanted is False:
                    self.assert_no_text(changed)
                elif wanted is True:
                    self.assertEqual(desk_text(read_desk(changed)), changed)
        self.assertGreater(min(seen[True], seen[False]), 200)

    def changed(self, text, dice):
        """The text with a row lost, doubled or exchanged, or with a sign changed, lost or added."""
        rows = text.split("\n")[:-1]
        at, other = dice.randrange(len(rows)), dice.randrange(len(rows))
        place = dice.randrange(len(text))
        sign = dice.choice("01234 .-?\nabnoyes_+")
        way = dice.randrange(6)
        if way == 0:
            rows = rows[:at] + rows[at + 1:]
        elif way == 1:
            rows = rows[:at] + [rows[at]] + rows[at:]
        elif way == 2:
            rows[at], rows[other] = rows[other], rows[at]
        elif way == 3:
            return text[:place] + sign + text[place + 1:]
        elif way == 4:
            return text[:place] + text[place + 1:]
        else:
            return text[:place] + sign + text[place:]
        return "".join(row + "\n" for row in rows)


class NamedTest(unittest.TestCase):
    def test_each_deed_has_a_line(self):
        self.assertEqual(sorted(LINES), sorted(NAMED))


if __name__ == "__main__":
    unittest.main()
