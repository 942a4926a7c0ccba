"""How the lines that a desk is told are read."""

from webdown.errors import NoLine
from webdown.kinds import KINDS
from webdown.texts import read_step

LETTERS = "abcdefghijklmnopqrstuvwxyz"
MOST_LETTERS = 12

ALONE = ("back", "again", "names")
WITH_ONE_NAME = ("drop", "show", "counts", "kind", "width")
WITH_TWO_NAMES = ("alike", "comes")


def read_line(line):
    # Told is (word, names that must stand for webs, what else the line says).
    words = line.split(" ")
    read = read_plain(words) if words[0] in ALONE + WITH_ONE_NAME + WITH_TWO_NAMES else read_other(words)
    if read is None:
        raise NoLine("there is no such line")
    return read


def read_plain(words):
    names = words[1:]
    if len(names) != how_many_names(words[0]) or not are_names(names):
        return None
    return (words[0], tuple(names), ())


def how_many_names(word):
    if word in ALONE:
        return 0
    return 1 if word in WITH_ONE_NAME else 2


def read_other(words):
    if words[0] == "of":
        return read_of(words)
    if len(words) < 3 or not is_name(words[1]):
        return None
    if words[0] == "web":
        # All behind the second blank, with whatever blanks there are.
        return ("web", (), (words[1], " ".join(words[2:])))
    if words[0] == "step":
        step = read_step(words[2:])
        return None if step is None else ("step", (words[1],), (step,))
    if words[0] == "copy" and len(words) == 3 and is_name(words[2]):
        return ("copy", (words[1],), (words[2],))
    return None


def read_of(words):
    if len(words) != 3 or words[1] not in KINDS or not is_name(words[2]):
        return None
    return ("of", (words[2],), (words[1],))


def are_names(words):
    return all([is_name(word) for word in words])


def is_name(word):
    return 1 <= len(word) <= MOST_LETTERS and all([letter in LETTERS for letter in word])
