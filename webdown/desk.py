"""The desk: webs kept under names, deeds that can be taken back, and questions."""

from webdown.comes import comes_out
from webdown.errors import NoName, NothingDone
from webdown.kinds import KINDS, made, making_of
from webdown.layings import alike
from webdown.lines import read_line
from webdown.steps import stepped
from webdown.texts import heaps_text, read_web, web_text, words_text
from webdown.webs import counts_of
from webdown.widths import width_of

DEEDS = ("web", "step", "copy", "drop")


class Desk:
    def __init__(self):
        self.webs = {}
        # What stood under the names ahead of each deed done, and behind each deed taken back; the last one last.
        self.stood_ahead = []
        self.stood_behind = []

    def tell(self, line):
        said = read_line(line)
        if not all([name in self.webs for name in said[1]]):
            raise NoName("no web stands under the name")
        if said[0] in DEEDS:
            self.do(behind_deed(self.webs, said))
            return "done"
        if said[0] == "back":
            self.change(self.stood_ahead, self.stood_behind)
            return "done"
        if said[0] == "again":
            self.change(self.stood_behind, self.stood_ahead)
            return "done"
        return answer(self.webs, said)

    def do(self, webs):
        self.stood_ahead.append(self.webs)
        self.stood_behind = []
        self.webs = webs

    def change(self, taken_from, laid_on):
        if len(taken_from) == 0:
            raise NothingDone("there is no such deed")
        laid_on.append(self.webs)
        self.webs = taken_from.pop()


def behind_deed(webs, said):
    # Another dict: the one that stood ahead stays as it is, for it may be asked back.
    changed = dict(webs)
    if said[0] == "web":
        changed[said[2][0]] = read_web(said[2][1])
    elif said[0] == "step":
        changed[said[1][0]] = stepped(webs[said[1][0]], said[2][0])
    elif said[0] == "copy":
        changed[said[2][0]] = webs[said[1][0]]
    else:
        changed.pop(said[1][0])
    return changed


def answer(webs, said):
    asked_of = [webs[name] for name in said[1]]
    if said[0] == "names":
        return words_text(sorted(webs))
    if said[0] == "show":
        return web_text(asked_of[0])
    if said[0] == "counts":
        return words_text([str(count) for count in counts_of(asked_of[0])])
    if said[0] == "kind":
        return kind_text(asked_of[0])
    if said[0] == "of":
        return made_text(made(said[2][0], asked_of[0]))
    if said[0] == "width":
        return str(width_of(asked_of[0]))
    if said[0] == "alike":
        return "no" if alike(asked_of[0], asked_of[1]) is None else "yes"
    return heaps_or_no(comes_out(asked_of[0], asked_of[1]))


def kind_text(web):
    for kind in KINDS:
        if making_of(kind, web) is not None:
            return kind
    return "none"


def made_text(told):
    if told[0] == "of":
        return "yes"
    return words_text(["no", str(told[1]), heaps_text(told[2])])


def heaps_or_no(heaps):
    return "no" if heaps is None else words_text(["yes", heaps_text(heaps)])
