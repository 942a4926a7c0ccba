"""[41] to [43]: a desk's deeds, questions and refusals, by lines written out and by lines told by chance."""

import random
import re

from tests.helper import BARS, WebCase
from tests.helper import across, all_tied, are_holding_heaps, are_tied, is_laying, is_of_kind, prism, ring_of, row_of
from tests.helper import some_heaps, star_of, wheel
from webdown.desk import Desk
from webdown.errors import NoLine, NoName, NoStep, NoText, NothingDone, TooGreat, WebError
from webdown.layings import alike
from webdown.steps import stepped
from webdown.texts import read_web, web_text
from webdown.webs import counts_of
from webdown.widths import width_of

KINDS = ("bare", "rows", "trees", "rings", "land", "twos", "flat")
WORDS = ("web", "step", "copy", "drop", "back", "again", "names")
WORDS += ("show", "counts", "kind", "of", "width", "alike", "comes")

NAME = "([a-z]{1,12})"
NUMBER = "(?:0|[1-9][0-9]{0,3})"
STEP = f"(tie {NUMBER} {NUMBER}|place {NUMBER}|draw {NUMBER} {NUMBER})"
FORMS = {
    "web": f"web {NAME} (.*)",
    "step": f"step {NAME} {STEP}",
    "copy": f"copy {NAME} {NAME}",
    "drop": f"drop {NAME}",
    "back": "back",
    "again": "again",
    "names": "names",
    "show": f"show {NAME}",
    "counts": f"counts {NAME}",
    "kind": f"kind {NAME}",
    "of": f"of ({'|'.join(KINDS)}) {NAME}",
    "width": f"width {NAME}",
    "alike": f"alike {NAME} {NAME}",
    "comes": f"comes {NAME} {NAME}",
}


def read_heaps(text):
    return () if text == "-" else tuple(tuple(map(int, heap.split("+"))) for heap in text.split(" "))


class Model:
    """A desk by the words of [41] to [43]: all that ever stood, and how far of it has been done and not taken back."""

    def __init__(self):
        self.stood = [{}]
        self.spot = 0

    def standing(self):
        return self.stood[self.spot]

    def refusal_or_answer(self, line):
        """The class of the refusal, or a function that tells whether an answer is right."""
        forms = [(word, re.fullmatch(form, line)) for word, form in FORMS.items()]
        forms = [(word, found.groups()) for word, found in forms if found]
        if not forms:
            return NoLine
        [(word, rest)] = forms
        webs = self.standing()
        needed = {"web": (), "copy": rest[:1], "step": rest[:1], "of": rest[1:]}.get(word, rest)
        if any(name not in webs for name in needed):
            return NoName
        if word in ("web", "step", "copy", "drop"):
            return self.deed(word, rest)
        if word in ("back", "again"):
            spot = self.spot + (1 if word == "again" else -1)
            if spot not in range(len(self.stood)):
                return NothingDone
            self.spot = spot
            return lambda answer: answer == "done"
        return lambda answer: is_answer(webs, word, rest, answer)

    def deed(self, word, rest):
        webs = dict(self.standing())
        try:
            if word == "web":
                webs[rest[0]] = read_web(rest[1])
            elif word == "step":
                step, *numbers = rest[1].split(" ")
                webs[rest[0]] = stepped(webs[rest[0]], (step, *map(int, numbers)))
            elif word == "copy":
                webs[rest[1]] = webs[rest[0]]
            else:
                del webs[rest[0]]
        except WebError as refusal:
            return type(refusal)
        self.stood[self.spot + 1 :] = [webs]
        self.spot += 1
        return lambda answer: answer == "done"


def is_answer(webs, word, rest, answer):
    """By the words of [42]."""
    if word == "names":
        return answer == (" ".join(sorted(webs)) or "-")
    if word == "of":
        kind, web = rest[0], webs[rest[1]]
        if is_of_kind(kind, web):
            return answer == "yes"
        no, number, heaps = answer.split(" ", 2)
        return no == "no" and number in "01" and are_holding_heaps(BARS[kind][int(number)], web, read_heaps(heaps))
    web = webs[rest[0]]
    if word == "comes":
        if some_heaps(web, webs[rest[1]]) is None:
            return answer == "no"
        return answer[:4] == "yes " and are_holding_heaps(web, webs[rest[1]], read_heaps(answer[4:]))
    if word == "alike":
        laying = alike(web, webs[rest[1]])
        return answer == ("no" if laying is None else "yes")
    first_kind = ([kind for kind in KINDS if is_of_kind(kind, web)] + ["none"])[0]
    right = {
        "show": web_text(web),
        "counts": " ".join(map(str, counts_of(web))),
        "kind": first_kind,
        "width": str(width_of(web)),
    }
    return answer == right[word]


class DeskCase(WebCase):
    def setUp(self):
        self.desk = Desk()

    def tells(self, *lines_and_answers):
        """Told in turns a line and what is answered, which may be a refusal."""
        for line, answer in zip(lines_and_answers[::2], lines_and_answers[1::2], strict=True):
            with self.subTest(line=line):
                if isinstance(answer, str):
                    told = self.desk.tell(line)
                    self.assertIs(type(told), str)
                    self.assertEqual(told, answer)
                else:
                    self.refused(answer, self.desk.tell, line)

    def done(self, *lines):
        for line in lines:
            self.tells(line, "done")

    def all_that_stands(self):
        names = self.desk.tell("names")
        return {name: self.desk.tell(f"show {name}") for name in names.split(" ") if names != "-"}


class TestDeeds(DeskCase):
    def test_web(self):
        self.tells("names", "-", "web a 4 0-1 1-20", "done", "show a", "4 0-1 1-20", "names", "a")
        self.tells("web a 7", "done", "show a", "7", "web b -", "done", "show b", "-", "names", "a b", "show a", "7")

    def test_step(self):
        self.done("web a 0-1 0-2 1-2", "step a tie 0 1")
        self.tells("show a", "0-2 1-2", "step a draw 1 2", "done", "show a", "0-1")
        self.tells("step a place 0", "done", "show a", "1")
        self.tells("step a place 1", "done", "show a", "-", "step a place 1", NoStep)
        self.tells("web b 3-9999", "done", "step b draw 9999 3", "done", "show b", "9999", "show a", "-")

    def test_copy(self):
        self.done("web a 0-1", "copy a b", "step a tie 0 1")
        self.tells("show a", "0 1", "show b", "0-1", "copy b a", "done", "show a", "0-1")
        self.tells("copy a a", "done", "show a", "0-1")
        self.tells("names", "a b", "back", "done", "show a", "0-1", "back", "done", "show a", "0 1")

    def test_drop(self):
        self.done("web a 0", "web b 1", "drop a")
        self.tells("names", "b", "show a", NoName, "drop a", NoName, "drop b", "done", "names", "-")

    def test_names_that_are_words_of_lines(self):
        for word in WORDS + KINDS + ("tie", "place", "draw", "done", "yes", "no", "none"):
            self.done(f"web {word} 0-1", f"copy {word} x", f"step {word} tie 0 1")
            self.tells(f"show {word}", "0 1", f"counts {word}", "2 0 0", f"kind {word}", "bare")
            self.tells(f"of bare {word}", "yes", f"width {word}", "0", f"alike {word} x", "no")
            self.assertIn(self.desk.tell(f"comes {word} x"), ("yes 0 1", "yes 1 0"))
            self.tells(f"drop {word}", "done", f"show {word}", NoName)
            self.tells("names", "x", "back", "done", "names", " ".join(sorted((word, "x"))), f"drop {word}", "done")

    def test_names(self):
        for name in ("a", "z", "abcdefghijkl", "zzzzzzzzzzzz"):
            self.tells(f"web {name} 0", "done", f"show {name}", "0")
        self.tells("names", "a abcdefghijkl z zzzzzzzzzzzz")
        for name in ("", "abcdefghijklm", "A", "aB", "a1", "1", "a-b", "a_b", "-", "a.", "\u00e4", "a\n"):
            self.tells(f"web {name} 0", NoLine, f"show {name}", NoLine)
            self.tells(f"copy a {name}", NoLine, f"copy {name} a", NoLine)
            self.tells(f"drop {name}", NoLine, f"step {name} place 0", NoLine, f"of bare {name}", NoLine)
            self.tells(f"alike a {name}", NoLine, f"comes {name} a", NoLine)
        self.tells("names", "a abcdefghijkl z zzzzzzzzzzzz")


class TestBackAndAgain(DeskCase):
    def test_to_both_ends(self):
        deeds = ("web a 0-1 1-2", "copy a b", "step a draw 1 0", "web b 7", "drop a", "web a 3", "copy b a", "drop b")
        stood = [self.all_that_stands()]
        for deed in deeds:
            self.done(deed)
            stood.append(self.all_that_stands())
        for time in range(2):
            for number in range(len(deeds) - 1, -1, -1):
                self.done("back")
                self.assertEqual(self.all_that_stands(), stood[number])
            self.tells("back", NothingDone)
            self.assertEqual(self.all_that_stands(), {})
            for number in range(1, len(deeds) + 1):
                self.done("again")
                self.assertEqual(self.all_that_stands(), stood[number])
            self.tells("again", NothingDone)
            self.assertEqual(self.all_that_stands(), stood[-1])

    def test_nothing_done(self):
        self.tells("back", NothingDone, "again", NothingDone, "web a 0", "done", "again", NothingDone, "back", "done")
        self.tells("back", NothingDone, "names", "-", "again", "done", "names", "a", "again", NothingDone)

    def test_a_deed_behind_back_forgets(self):
        self.done("web a 0", "web a 1", "web a 2", "back", "back", "web b 9")
        self.tells("again", NothingDone, "show a", "0", "show b", "9", "back", "done", "names", "a", "again", "done")
        self.tells("show b", "9", "back", "done", "back", "done", "back", NothingDone, "names", "-")

    def test_a_deed_that_leaves_all_as_it_was(self):
        self.done("web a 0-1", "web a 0-1", "copy a a", "back")
        self.tells("show a", "0-1", "back", "done", "show a", "0-1", "back", "done", "names", "-", "back", NothingDone)
        self.done("again", "again", "copy a a")
        self.tells("again", NothingDone, "back", "done", "again", "done", "again", NothingDone)

    def test_forth_and_back_in_the_middle(self):
        self.done("web a 0", "web a 1", "web a 2", "back", "again", "back", "back")
        self.tells("show a", "0", "again", "done", "show a", "1", "again", "done", "show a", "2", "again", NothingDone)

    def test_what_is_refused_can_neither_be_taken_back_nor_done_again(self):
        self.done("web a 0-1", "web b 5", "back")
        wrong = ("web a", NoLine, "web c 1-0", NoText, "web c 0 1 2 3 4 5 6 7 8 9 10", TooGreat, "drop b", NoName)
        wrong += ("step a place 5", NoStep, "step a tie 1 0", NoStep, "copy b c", NoName, "nothing", NoLine)
        self.tells(*wrong)
        self.tells("names", "a", "show a", "0-1", "again", "done", "show b", "5", "again", NothingDone)
        self.tells(*(wrong[:6] + wrong[8:12]))
        self.tells("back", "done", "names", "a", "back", "done", "names", "-", *wrong[:6], "back", NothingDone)
        self.tells("again", "done", "again", "done", "names", "a b", "again", NothingDone)

    def test_questions_change_nothing(self):
        self.done("web a 0-1", "web b 5", "back")
        questions = ("names", "show a", "counts a", "kind a", "of bare a", "of flat a", "width a")
        questions += ("alike a a", "comes a a")
        for question in questions:
            self.assertEqual(self.desk.tell(question), self.desk.tell(question))
        self.tells("again", "done", "names", "a b", "again", NothingDone)
        for question in questions:
            self.assertEqual(self.desk.tell(question), self.desk.tell(question))
        self.tells("back", "done", "back", "done", "back", NothingDone)


class TestQuestions(DeskCase):
    def test_names(self):
        self.tells("names", "-")
        for name in ("b", "a", "ba", "z", "ab", "c"):
            self.done(f"web {name} -")
        self.tells("names", "a ab b ba c z")

    def test_counts(self):
        for web, counts in (
            (((), ()), "0 0 0"),
            (row_of((3, 4, 9)), "3 2 0"),
            (all_tied(range(10)), "10 45 36"),
            (wheel(0, (1, 2, 3)), "4 6 3"),
        ):
            self.done(f"web a {web_text(web)}")
            self.tells("counts a", counts, "show a", web_text(web))

    def test_kind(self):
        for text, kind in (
            ("-", "bare"),
            ("0 5", "bare"),
            ("0-1 1-2", "rows"),
            ("0-1 0-2 0-3", "trees"),
            ("0-1 0-2 1-2", "rings"),
            ("0-1 0-2 0-3 1-2 1-3", "land"),
            ("0-2 0-3 0-4 1-2 1-3 1-4", "twos"),
            ("0-1 0-2 0-3 1-2 1-3 2-3", "flat"),
            (web_text(prism(range(6))), "flat"),
            (web_text(all_tied(range(5))), "none"),
            (web_text(across((0, 1, 2), (3, 4, 5))), "none"),
        ):
            self.done(f"web a {text}")
            self.tells("kind a", kind)
            for word in KINDS:
                told = self.desk.tell(f"of {word} a")
                self.assertEqual(told == "yes", kind != "none" and KINDS.index(kind) <= KINDS.index(word))
                self.assertTrue(is_answer({"a": read_web(text)}, "of", (word, "a"), told), (text, word, told))

    def test_of(self):
        self.done("web a 0-1 0-2 1-2", "web b 0-1")
        self.tells("of rings a", "yes", "of bare b", "no 0 0 1", "of rows b", "yes")
        for kind in ("rows", "trees"):
            self.assertRegex(self.desk.tell(f"of {kind} a"), "^no 0 ([0-2]) (?!\\1)([0-2]) (?!\\1|\\2)[0-2]$")
        self.done("web a 1-5 2-5 5-9")
        self.assertRegex(self.desk.tell("of rows a"), "^no 1 5 [129] [129] [129]$")

    def test_width(self):
        for width, web in enumerate((((), ()), row_of((0, 1, 2)), ring_of((0, 1, 2)), all_tied(range(4)))):
            self.done(f"web a {web_text(web)}")
            self.tells("width a", str(width))
        self.done(f"web a {web_text(all_tied(range(10)))}")
        self.tells("width a", "9")

    def test_alike(self):
        self.done("web a 0-1 1-2", "web b 5-9 7-9", "web c 2 0-1", "web d -")
        self.tells("alike a b", "yes", "alike b a", "yes", "alike a c", "no", "alike c a", "no", "alike a a", "yes")
        self.tells("alike d d", "yes", "alike d a", "no")
        self.assertTrue(is_laying(row_of((0, 1, 2)), star_of(9, (5, 7)), (5, 9, 7)))

    def test_comes(self):
        self.done("web a 0-1 0-2 1-2", "web b 0-1 0-3 1-2 2-3", "web c -", "web d 4-9999")
        self.tells("comes b a", "no", "comes c a", "yes -", "comes c c", "yes -", "comes a c", "no", "comes a d", "no")
        told = self.desk.tell("comes a b")
        self.assertTrue(told.startswith("yes "))
        self.assertEqual(sorted(len(heap) for heap in read_heaps(told[4:])), [1, 1, 2])
        self.assertTrue(are_holding_heaps(ring_of((0, 1, 2)), ring_of((0, 1, 2, 3)), read_heaps(told[4:])))
        self.assertIn(self.desk.tell("comes d d"), ("yes 4 9999", "yes 9999 4"))
        self.assertTrue(are_tied(read_web(self.desk.tell("show d")), 4, 9999))


class TestRefused(DeskCase):
    def test_no_lines(self):
        self.done("web a 0-1", "web b 0")
        lines = ["", " ", "a", "nothing", "Names", "names ", " names", "names a", "back ", " back", "back a", "back 1"]
        lines += ["again ", "again a", "again 2", "web", "web ", "web a", "web  a 0", " web a 0", "WEB a 0", "webs a 0"]
        for word in ("drop", "show", "counts", "kind", "width"):
            lines += [word, f"{word} ", f"{word}  a", f"{word} a ", f" {word} a", f"{word} a b", f"a {word}"]
            lines += [f"{word}a", f"{word} a a", f"{word} A", f"{word} 1", word.upper() + " a"]
        for word in ("copy", "alike", "comes"):
            lines += [word, f"{word} a", f"{word} a ", f"{word}  a b", f"{word} a  b", f"{word} a b ", f" {word} a b"]
            lines += [f"{word} a b a", f"a {word} b", f"{word} a B", f"{word} A b", f"{word} a 1", f"a b {word}"]
        lines += ["of", "of bare", "of a", "of a bare", "of bare a ", "of  bare a", "of bare  a", "of bare a b"]
        lines.append("of bare A")
        lines += ["of none a", "of Bare a", "of row a", "of  a", "bare of a", "of bare rows a", " of bare a"]
        lines += ["step", "step a", "step a ", "step  a tie 0 1", "step tie 0 1", "step a 0 1", "step A place 0"]
        for step in (
            *("tie", "tie 0", "tie 0 1 2", "tie 0 1 ", " tie 0 1", "tie  0 1", "tie 0  1", "tie 0-1", "Tie 0 1"),
            *("tie 00 1", "tie 0 01", "tie 0 10000", "tie 10000 0", "tie a b", "tie 0,1", "tie 0 1.", "tie -0 1"),
            *("place", "place ", "place 0 1", "place -1", "place x", "place +1", "place 0.", "place 10000", "place 01"),
            *("draw", "draw 0", "draw 0 ", "draw 0 1 1", "draw 0 10000", "draw 0 01", "pull 0 1", "places 0"),
        ):
            lines.append(f"step a {step}")
        for line in lines:
            self.tells(line, NoLine)
        self.assertEqual(self.all_that_stands(), {"a": "0-1", "b": "0"})
        self.tells("back", "done", "back", "done", "back", NothingDone)

    def test_no_names(self):
        self.done("web a 0-1")
        lines = ("step b place 0", "copy b a", "copy b b", "drop b", "show b", "counts b", "kind b", "of bare b")
        for line in lines + ("width b", "alike a b", "alike b a", "alike b b", "comes a b", "comes b a", "comes b b"):
            self.tells(line, NoName)
        self.tells("copy a b", "done", "web c 0", "done")

    def test_texts(self):
        for text in ("", " ", "0 ", " 0", "0  1", "1-0", "0-1 0", "00", "10000", "x", "- -", "0-1 0-1", "web", "0+1"):
            self.tells(f"web a {text}", NoText)
        self.tells("web a 0 1 2 3 4 5 6 7 8 9 10", TooGreat, "web a 0 1 2 3 4 5 6 7 8 9", "done")
        self.tells("web a 0 1 2 3 4 5 6 7 8 9 10 ", NoText, "show a", "0 1 2 3 4 5 6 7 8 9")

    def test_steps(self):
        self.done("web a 0-1 1-3 4-5")
        steps = ("tie 3 1", "tie 0 3", "tie 0 0", "tie 7 8", "tie 1 9999", "place 2", "draw 0 3", "draw 1 1")
        for step in steps + ("draw 0 9",):
            self.tells(f"step a {step}", NoStep)
        self.tells("show a", "0-1 1-3 4-5", "step a draw 3 1", "done", "show a", "0-3 4-5")

    def test_the_one_that_is_due_first(self):
        self.tells(
            *("step a tie 0 10000", NoLine, "of none a", NoLine, "copy a B", NoLine, "alike a", NoLine),
            *("web A x", NoLine, "web a", NoLine, "step a place 0", NoName, "back a", NoLine, "web a 1-0", NoText),
        )
        self.done("web a 0-1")
        self.tells("step b tie 1 0", NoName, "step a tie 1 0", NoStep, "step a tie 1 00", NoLine)
        self.tells("step b tie 1 00", NoLine, "web b 0 1 2 3 4 5 6 7 8 9 10 10", NoText)
        self.tells("comes a B", NoLine, "comes B a", NoLine, "comes b a c", NoLine)


class TestDesks(DeskCase):
    def test_two_desks_have_nothing_in_common(self):
        one, other = Desk(), Desk()
        self.assertEqual(one.tell("web a 0-1"), "done")
        self.assertEqual(other.tell("names"), "-")
        self.refused(NothingDone, other.tell, "back")
        self.refused(NoName, other.tell, "show a")
        self.assertEqual(other.tell("web a 7"), "done")
        self.assertEqual(other.tell("web b 8"), "done")
        self.assertEqual((one.tell("show a"), other.tell("show a"), one.tell("names")), ("0-1", "7", "a"))
        self.assertEqual(one.tell("back"), "done")
        self.assertEqual((one.tell("names"), other.tell("names")), ("-", "a b"))
        self.refused(NothingDone, other.tell, "again")
        self.assertEqual((one.tell("again"), other.tell("back"), other.tell("names")), ("done", "done", "a"))
        self.assertEqual((one.tell("show a"), Desk().tell("names")), ("0-1", "-"))

    def compare(self, desk, model, line):
        expected = model.refusal_or_answer(line)
        if isinstance(expected, type):
            self.refused(expected, desk.tell, line)
        else:
            answer = desk.tell(line)
            self.assertIs(type(answer), str)
            self.assertTrue(expected(answer), (line, answer))

    def some_line(self, chance, names):
        texts = ("-", "0", "0-1", "0-1 0-2 1-2", "3 0-1 1-2", "0-1 0-2 0-3", "0-1 0-3 1-2 2-3")
        texts += ("4 0-1 0-2 0-3 1-2 1-3 2-3", "", "1-0", "0 1 2 3 4 5 6 7 8 9 10", "00", "0 ")
        one, two = chance.choice("00112234"), chance.choice("01233")
        step = chance.choice((f"tie {one} {two}", f"place {one}", f"draw {one} {two}"))
        name, other, kind = chance.choice(names), chance.choice(names), chance.choice(KINDS)
        line = chance.choice(
            (
                *(f"web {name} {chance.choice(texts)}", f"web {name} {chance.choice(texts[:8])}"),
                *(f"step {name} {step}", f"step {name} {step}", f"copy {name} {other}", f"drop {name}"),
                *("back", "back", "again", "again", "names", f"show {name}", f"counts {name}", f"kind {name}"),
                *(f"of {kind} {name}", f"width {name}", f"alike {name} {other}", f"comes {name} {other}"),
            )
        )
        if chance.random() < 0.1:
            spot = chance.randrange(len(line) + 1)
            line = line[:spot] + chance.choice((" ", "x", "0", "-", "")) + line[spot + chance.randint(0, 1) :]
        return line

    def test_lines_by_chance(self):
        for seed in range(30):
            chance = random.Random(seed)
            desks = [(Desk(), Model(), ("a", "b", "web")), (Desk(), Model(), ("a", "ab", "back", "x"))]
            for time in range(120):
                desk, model, names = chance.choice(desks)
                self.compare(desk, model, self.some_line(chance, names))
            for desk, model, names in desks:
                shown = {name: desk.tell(f"show {name}") for name in desk.tell("names").split(" ") if name != "-"}
                self.assertEqual(shown, {name: web_text(web) for name, web in model.standing().items()})

    def test_lines_of_words_by_chance(self):
        chance = random.Random(43)
        desk, model = Desk(), Model()
        for line in ("web a 0-1", "web web 0", "web of 0-1 0-2 1-2"):
            self.compare(desk, model, line)
        for time in range(3000):
            words = [chance.choice(WORDS + KINDS + ("a", "of", "tie", "place", "0", "1", "0-1", "-", ""))]
            words += [chance.choice(("a", "web", "of", "tie", "bare", "0", "1", "place", "b", "")) for more in range(4)]
            self.compare(desk, model, " ".join(words[: chance.randint(1, 5)]))
