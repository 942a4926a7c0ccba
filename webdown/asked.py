"""Of any two webs: whether the one comes out of the other, or a paper that it does not; and the look at papers."""

from webdown.comes import comes_out
from webdown.heaps import heaps_hold
from webdown.kinds import KINDS, bars_of, made, making_holds, making_of
from webdown.layings import alike, laying_holds
from webdown.listing import MOST_LISTED, listed
from webdown.shapes import is_pair, is_web, is_whole
from webdown.steps import stepped, steps_of
from webdown.webs import counts_of
from webdown.widths import slim, width_holds, width_of

GREATEST_WIDTH = 9


def few_paper(little, great):
    for number, counts in enumerate(zip(counts_of(little), counts_of(great))):
        if counts[0] > counts[1]:
            return ("few", number)
    return None


def kind_paper(little, great):
    for kind in KINDS:
        making = making_of(kind, great)
        if making is not None and making_of(kind, little) is None:
            bar_told = made(kind, little)
            return ("kind", kind, making, bar_told[1], bar_told[2])
    return None


def slim_paper(little, great):
    # Where there is a paper for some k, there is one for the great web's width, too: so this one is enough.
    k = width_of(great)
    of_little = slim(little, k)
    if k > GREATEST_WIDTH or of_little[0] == "slim":
        return None
    return ("slim", k, slim(great, k)[1], of_little[1])


def listed_paper(little, great):
    # Asked only of a little web that does not come out of the great one: so it is alike to no line's web.
    return ("listed", listed(great)) if len(great[0]) <= MOST_LISTED else None


PAPERS = (few_paper, kind_paper, slim_paper, listed_paper)


def asked(little, great):
    heaps = comes_out(little, great)
    if heaps is not None:
        return ("comes", heaps)
    for paper_of in PAPERS:
        paper = paper_of(little, great)
        if paper is not None:
            return paper
    return ("never",)


def looks(little, great, told):
    if has_shape(told, "comes", 2):
        return heaps_hold(little, great, told[1])
    if has_shape(told, "few", 2):
        return shows_few(little, great, told[1])
    if has_shape(told, "kind", 5):
        return shows_kind(little, great, told)
    if has_shape(told, "slim", 4):
        return shows_slim(little, great, told)
    return has_shape(told, "listed", 2) and shows_listed(little, great, told[1])


def has_shape(told, word, length):
    return isinstance(told, tuple) and len(told) == length and told[0] == word


def is_number_below(value, bound):
    return is_whole(value) and 0 <= value < bound


def shows_few(little, great, number):
    return is_number_below(number, 3) and counts_of(little)[number] > counts_of(great)[number]


def shows_kind(little, great, told):
    return (
        told[1] in KINDS
        and making_holds(told[1], great, told[2])
        and is_number_below(told[3], len(bars_of(told[1])))
        and heaps_hold(bars_of(told[1])[told[3]], little, told[4])
    )


def shows_slim(little, great, told):
    return (
        is_number_below(told[1], GREATEST_WIDTH + 1)
        and width_holds(great, told[1], ("slim", told[2]))
        and width_holds(little, told[1], ("wide", told[3]))
    )


def shows_listed(little, great, lines):
    return (
        len(great[0]) <= MOST_LISTED
        and isinstance(lines, tuple)
        and len(lines) > 0
        and all([is_pair(line) and is_web(line[0]) for line in lines])
        and lines[0][0] == great
        and all([are_rows(lines, line[0], line[1]) for line in lines])
        and all([alike(little, line[0]) is None for line in lines])
    )


def are_rows(lines, web, rows):
    steps = steps_of(web)
    return (
        isinstance(rows, tuple)
        and len(rows) == len(steps)
        and all([leads_on(lines, stepped(web, step), row) for step, row in zip(steps, rows)])
    )


def leads_on(lines, web, row):
    return is_pair(row) and is_number_below(row[0], len(lines)) and laying_holds(web, lines[row[0]][0], row[1])
