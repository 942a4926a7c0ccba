"""How webs, heaps and steps are written, and how a web and a step are read."""

from webdown.errors import NoText, TooGreat
from webdown.shapes import MOST_PLACES, rising, together
from webdown.webs import all_beside

FIGURES = "0123456789"
MOST_FIGURES = 4
MOST_WRITTEN = 9999
NOTHING = "-"


def web_text(web):
    refuse_great_numbers(web[0])
    touching = all_beside(web)
    lone = [str(place) for place in web[0] if len(touching[place]) == 0]
    return words_text(lone + [f"{a}-{b}" for a, b in web[1]])


def heaps_text(heaps):
    refuse_great_numbers(together(heaps))
    return words_text([heap_text(heap) for heap in heaps])


def heap_text(heap):
    return "+".join([str(place) for place in heap])


def refuse_great_numbers(places):
    if any([place > MOST_WRITTEN for place in places]):
        raise TooGreat(f"no place above {MOST_WRITTEN} is written")


def words_text(words):
    return " ".join(words) if len(words) > 0 else NOTHING


def read_web(text):
    words = [] if text == NOTHING else text.split(" ")
    numbers = [word.split("-") for word in words]
    if not all([are_of_lone_or_tie(each) for each in numbers]):
        raise NoText("a word is neither a place nor a tie")
    ties = [tie_read(each) for each in numbers if len(each) == 2]
    web = (rising([int(number) for number in together(numbers)]), rising(ties))
    # One web is written in one way alone, so this finds whatever stands twice or in another order.
    if web_text(web) != text:
        raise NoText("no web is written so")
    if len(web[0]) > MOST_PLACES:
        raise TooGreat(f"a web has at most {MOST_PLACES} places")
    return web


def are_of_lone_or_tie(numbers):
    return (
        all([is_number_text(number) for number in numbers])
        and len(numbers) <= 2
        and len(set(numbers)) == len(numbers)
    )


def tie_read(numbers):
    return rising([int(number) for number in numbers])


def is_number_text(word):
    return (
        1 <= len(word) <= MOST_FIGURES
        and all([figure in FIGURES for figure in word])
        and (word[0] != "0" or word == "0")
    )


def read_step(words):
    # None where the words write no step.
    if not all([is_number_text(word) for word in words[1:]]):
        return None
    step = tuple(words[:1] + [int(word) for word in words[1:]])
    if step[0] == "place":
        return step if len(step) == 2 else None
    return step if step[0] in ("tie", "draw") and len(step) == 3 else None
