"""The desk: webs kept under names, deeds that can be taken back, and questions."""

from webdown.comes import comes_out
from webdown.errors import NoName, NothingDone
from webdown.kinds import KINDS, made, making_of
from webdown.layings import alike
from webdown.lines import read_line
from webdown.steps import stepped
from webdown.texts import heaps_text, read_web, web_text, words_text
from webdown.webs import counts_of
from webdown.widths import width_of

DEEDS = ("web", "step", "copy", "drop")


class Desk:
    def __init__(self):
        self.webs = {}
        # What stood under the names ahead of each deed done, and behind each deed taken back; the last one last.
        self.stood_ahead = []
        self.stood_behind = []

    def tell(self, line):
        said = read_line(line)
        word = said[0]
        names = said[1]
        given = said[2]
        if not all([name in self.webs for name in names]):
            raise NoName("no web stands under the name")
        if word in DEEDS:
            self.do(behind_deed(self.webs, word, names, given))
            return "done"
        if word == "back":
            self.change(self.stood_ahead, self.stood_behind)
            return "done"
        if word == "again":
            self.change(self.stood_behind, self.stood_ahead)
            return "done"
        if word == "names":
            return words_text(sorted(self.webs))
        return answer(word, [self.webs[name] for name in names], given)

    def do(self, webs):
        self.stood_ahead.append(self.webs)
        self.stood_behind = []
        self.webs = webs

    def change(self, taken_from, laid_on):
        if len(taken_from) == 0:
            raise NothingDone("there is no such deed")
        laid_on.append(self.webs)
        self.webs = taken_from.pop()


def behind_deed(webs, word, names, given):
    # Another dict: the one that stood ahead stays as it is, for it may be asked back.
    changed = dict(webs)
    if word == "web":
        changed[given[0]] = read_web(given[1])
    elif word == "step":
        changed[names[0]] = stepped(webs[names[0]], given[0])
    elif word == "copy":
        changed[given[0]] = webs[names[0]]
    else:
        changed.pop(names[0])
    return changed


def answer(word, webs, given):
    if word == "show":
        return web_text(webs[0])
    if word == "counts":
        return words_text([str(count) for count in counts_of(webs[0])])
    if word == "kind":
        return kind_text(webs[0])
    if word == "of":
        return made_text(made(given[0], webs[0]))
    if word == "width":
        return str(width_of(webs[0]))
    if word == "alike":
        return "no" if alike(webs[0], webs[1]) is None else "yes"
    return heaps_or_no(comes_out(webs[0], webs[1]))


def kind_text(web):
    for kind in KINDS:
        if making_of(kind, web) is not None:
            return kind
    return "none"


def made_text(told):
    if told[0] == "of":
        return "yes"
    return words_text(["no", str(told[1]), heaps_text(told[2])])


def heaps_or_no(heaps):
    return "no" if heaps is None else words_text(["yes", heaps_text(heaps)])
