"""[4]: the refusals and their classes."""

from tests.helper import FAR, WebCase
from webdown import errors
from webdown.errors import NoPlace, NoWeb, TooGreat, WebError
from webdown.webs import beside, counts_of, parts_of, web_of

NAMES = (
    "NoWeb",
    "NoPlace",
    "NoStep",
    "NoKind",
    "TooGreat",
    "NoText",
    "NoLine",
    "NoName",
    "NothingDone",
)


class TestClasses(WebCase):
    def test_web_error_stands_under_value_error(self):
        self.assertEqual(WebError.__bases__, (ValueError,))

    def test_each_stands_straight_under_web_error(self):
        for name in NAMES:
            with self.subTest(name):
                self.assertEqual(getattr(errors, name).__bases__, (WebError,))

    def test_none_stands_under_another(self):
        classes = [getattr(errors, name) for name in NAMES]
        self.assertEqual(len(set(classes)), 9)
        for one in classes:
            for other in classes:
                with self.subTest(one=one, other=other):
                    self.assertEqual(issubclass(one, other), one is other)

    def test_each_bears_its_name(self):
        for name in NAMES + ("WebError",):
            with self.subTest(name):
                self.assertEqual(getattr(errors, name).__name__, name)

    def test_each_can_be_raised_and_taken_as_web_error(self):
        for name in NAMES:
            with self.subTest(name), self.assertRaises(WebError):
                raise getattr(errors, name)("words")


class TestRefusedChangesNothing(WebCase):
    WEB = ((1, 4, 9), ((1, 9), (4, 9)))

    def test_same_answers_ahead_and_behind(self):
        questions = (
            (web_of, ((9, 4, 1), ((9, 1), (9, 4)))),
            (beside, (self.WEB, 9)),
            (parts_of, (self.WEB,)),
            (counts_of, (self.WEB,)),
        )
        refusals = (
            (NoWeb, web_of, ((9, 4, 1), ((9, 1), (4, 4)))),
            (NoWeb, web_of, ((9, 4, 1), ((9, 1), (9, 2)))),
            (TooGreat, web_of, (tuple(range(11)), ((9, 1), (9, 4)))),
            (NoPlace, beside, (self.WEB, 2)),
            (NoPlace, beside, (self.WEB, FAR)),
        )
        ahead = [self.told(function, *arguments) for function, arguments in questions]
        for error, function, arguments in refusals:
            with self.subTest(error=error, arguments=arguments):
                self.refused(error, function, *arguments)
                behind = [self.told(asked, *handed) for asked, handed in questions]
                self.assertEqual(behind, ahead)

    def test_what_was_handed_in_stays(self):
        places = (3, 1, 3)
        pairs = ((3, 1), (1, 3))
        self.told(web_of, places, pairs)
        self.refused(NoWeb, web_of, places, pairs + ((1, 1),))
        self.assertEqual((places, pairs), ((3, 1, 3), ((3, 1), (1, 3))))
