"""Desks as texts: the deeds, a line each, and reading them back by doing them."""

from lockstretch.desks import Desk
from lockstretch.errors import LockError, NoText

LETTERS = "abcdefghijklmnopqrstuvwxyz"
FIGURES = "0123456789"
# Python's own turning of numbers into texts and back has a bound; parts of so many figures keep below it.
PART = 64
PART_SIZE = 10 ** 64


def is_made_of(word, signs):
    """Whether the word has signs, and none but these."""
    return word != "" and all([sign in signs for sign in word])


def number_word(number):
    """The whole number in figures."""
    if number < 0:
        return "-" + number_word(-number)
    parts = []
    while number >= PART_SIZE:
        number, low = divmod(number, PART_SIZE)
        parts.append(str(low).zfill(PART))
    parts.append(str(number))
    return "".join(parts[::-1])


def stretch_word(stretch):
    """FIRST..END, or FIRST.. without end."""
    first, end = stretch
    if end is None:
        return number_word(first) + ".."
    return number_word(first) + ".." + number_word(end)


def value_word(value):
    """The word for one value of a deed."""
    if value is None:
        return "-"
    if isinstance(value, bool):
        return "yes" if value else "no"
    if isinstance(value, int):
        return number_word(value)
    if isinstance(value, tuple):
        return stretch_word(value)
    return value


def deed_line(deed):
    """The line of one deed, without its line feed."""
    word, values = deed
    return " ".join([word] + [value_word(value) for value in values])


def desk_text(desk):
    """The writing of the desk."""
    head = ["fair", "desk"] if desk.fair else ["desk"]
    lines = [" ".join(head + list(desk.files))]
    lines.extend([deed_line(deed) for deed in desk.deeds()])
    lines.extend(["?" + deed_line(deed) for deed in desk.undone()])
    return "".join([line + "\n" for line in lines])


def read_word(word):
    """A word that stands for itself."""
    return word


def read_number(word):
    """The whole number of these figures."""
    figures = word[1:] if word.startswith("-") else word
    if not is_made_of(figures, FIGURES):
        raise NoText("this is no number")
    start = len(figures) % PART
    number = int("0" + figures[:start])
    for at in range(start, len(figures), PART):
        number = number * PART_SIZE + int(figures[at:at + PART])
    return number if figures == word else -number


def read_number_or_none(word):
    """The whole number, or None."""
    return None if word == "-" else read_number(word)


def read_truth(word):
    """True or False."""
    if word not in ("yes", "no"):
        raise NoText("this is neither yes nor no")
    return word == "yes"


def read_stretch(word):
    """The pair of numbers that stands for a stretch, be it one or not."""
    first, dots, end = word.partition("..")
    if dots == "":
        raise NoText("this is no stretch")
    return (read_number(first), None if end == "" else read_number(end))


READERS = {
    "word": read_word,
    "number": read_number,
    "number or none": read_number_or_none,
    "truth": read_truth,
    "stretch": read_stretch,
}
# What stands behind the word of each deed.
SHAPES = {
    "begin": (),
    "attach": ("number", "word", "word"),
    "dup": ("number", "number", "number or none"),
    "close": ("number", "number"),
    "fork": ("number",),
    "end": ("number",),
    "lock": ("number", "number", "word", "stretch", "word", "truth"),
    "unlock": ("number", "number", "stretch", "word"),
    "cancel": ("number",),
    "lock_whole": ("number", "number", "word", "truth"),
    "unlock_whole": ("number", "number"),
}


def read_value(sort, word):
    """The value of this sort that the word stands for."""
    reader = READERS[sort]
    return reader(word)


def read_deed(line):
    """The deed (word, values) of a line."""
    word, *parts = line.split(" ")
    if word not in SHAPES or len(parts) != len(SHAPES[word]):
        raise NoText("this is no line of a deed")
    return (word, tuple([read_value(sort, part) for sort, part in zip(SHAPES[word], parts)]))


def read_head(line):
    """The desk of the first line, of which nothing is done yet."""
    words = line.split(" ")
    fair = words[0] == "fair"
    if fair:
        words = words[1:]
    names = words[1:]
    if words[:1] != ["desk"] or len(set(names)) != len(names):
        raise NoText("this is no first line of a desk")
    for name in names:
        if not is_made_of(name, LETTERS) or len(name) > 8:
            raise NoText("this is no name of a file")
    return Desk(tuple(names), fair=fair)


def do_lines(desk, lines):
    """All deeds of the lines are done, then those taken back that bear the sign for it."""
    for line in lines:
        word, values = read_deed(line.removeprefix("?"))
        desk.do(word, values)
    for line in lines:
        if line.startswith("?"):
            desk.back()


def read_desk(text):
    """The desk of which the text is the writing; NoText, if there is none."""
    lines = text.split("\n")
    desk = read_head(lines[0])
    try:
        do_lines(desk, lines[1:-1])
    except LockError:
        raise NoText("a deed of the text is none, or is refused") from None
    # What can be read in two ways, or stands in another order, is written otherwise than it was.
    if desk_text(desk) != text:
        raise NoText("the text is not as a desk is written")
    return desk
