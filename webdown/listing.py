"""All that comes out of a web of few places, of webs that are alike one."""

from webdown.errors import TooGreat
from webdown.layings import alike
from webdown.steps import stepped, steps_of

MOST_LISTED = 5


def listed(web):
    if len(web[0]) > MOST_LISTED:
        raise TooGreat(f"a web of more than {MOST_LISTED} places is not listed")
    webs = [web]
    lines = []
    while len(lines) < len(webs):
        standing = webs[len(lines)]
        rows = []
        for step in steps_of(standing):
            coming = stepped(standing, step)
            found = found_line(webs, coming)
            if found is None:
                # The new line's web is this very one, so each of its places lies on itself.
                found = (len(webs), coming[0])
                webs.append(coming)
            rows.append(found)
        lines.append((standing, tuple(rows)))
    return tuple(lines)


def found_line(webs, web):
    for number, known in enumerate(webs):
        laying = alike(web, known)
        if laying is not None:
            return (number, laying)
    return None
