import unittest

from sampling import FAR, WEB, chance_webs, fullest_web, great_webs, some_webs, web_state
from spanrow.errors import BadRow, BadText, BadWeb
from spanrow.texts import read_web, web_text
from spanrow.webs import Web
from test_cheapest import wrong_rows, with_lengths

TEXT = "places 3\ntie 0 1 5\ntie 2 1 -12\ntie 2 2 0"
BAD_NUMBERS = (
    "", "-", "-0", "00", "01", "-01", "--1", "+1", "1-", "1.0", "1_0", "0x1", "a", "one", "1e3", "9" * 61,
    "-" + "9" * 61, "1" + "0" * 60, "0" * 61, "1,", "*", "\t1",
)
BAD_TEXTS = (
    "", " ", "\n", "places", "places ", "places  3", " places 3", "places 3 ", "places 3\n", "\nplaces 3", "places 3 3",
    "Places 3", "PLACES 3", "place 3", "places\n3", "places three", "places 3\n\ntie 0 1 5", "places 3\ntie 0 1 5\n",
    "places 3\ntie 0 1", "places 3\ntie 0 1 5 6", "places 3\ntie", "places 3\ntie ", "places 3\ntie 0  1 5",
    "places 3\n tie 0 1 5", "places 3\ntie 0 1 5 ", "places 3\ntie  0 1 5", "places 3\nTie 0 1 5",
    "places 3\nties 0 1 5",
    "places 3\nplaces 3", "tie 0 1 5", "tie 0 1 5\nplaces 3", "places 3 tie 0 1 5", "places 3\ntie 0 1 5 tie 1 2 5",
    "places 3\ntie 0 1 5\n\n", "places 3\n0 1 5", "count", "places 3\ntie 0 1 5\nplaces 3", "places 3\t", "places\t3",
    "places 3\ntie 0 1 5;", "web 3", "places: 3",
)


class Reading(unittest.TestCase):
    """[12.1]"""

    def look_at(self, text, web, lengths):
        told = read_web(text)
        self.assertIs(type(told), tuple)
        made, row = told
        self.assertTrue(type(made) is Web and type(row) is list)
        self.assertEqual((web_state(made), row), (web_state(web), list(lengths)))

    def test_told_by_hand(self):
        self.look_at(TEXT, Web(3, [(0, 1), (2, 1), (2, 2)]), [5, -12, 0])
        self.look_at("places 1", Web(1, []), [])
        self.look_at("places 14", Web(14, []), [])
        self.look_at(f"places 1\ntie 0 0 {FAR}\ntie 0 0 -{FAR}", Web(1, [(0, 0)] * 2), [FAR, -FAR])
        self.assertEqual(web_text(Web(3, [(0, 1), (2, 1), (2, 2)]), [5, -12, 0]), TEXT)
        self.assertEqual(web_text(Web(1, []), []), "places 1")

    def test_there_and_back(self):
        webs = some_webs() + chance_webs(141, 100, 14, 30) + great_webs(142, 3) + [fullest_web()]
        for web, lengths in with_lengths(143, webs, 2):
            before = (web_state(web), list(lengths))
            text = web_text(web, lengths)
            self.assertEqual(text.split("\n"), [f"places {web.places}"] + [
                f"tie {one} {other} {length}" for (one, other), length in zip(web.ties, lengths)])
            self.assertEqual(web_text(web, tuple(lengths)), text)
            self.look_at(text, web, lengths)
            self.assertEqual(web_text(*read_web(text)), text)
            self.assertEqual((web_state(web), lengths), before)

    def test_bad_texts(self):
        for text in BAD_TEXTS:
            with self.assertRaises(BadText, msg=repr(text)):
                read_web(text)

    def test_bad_numbers(self):
        for word in BAD_NUMBERS:
            for text in (f"places {word}", f"places 3\ntie {word} 1 5", f"places 3\ntie 0 {word} 5",
                         f"places 3\ntie 0 1 {word}", f"places 3\ntie 0 1 5\ntie 0 1 {word}\ntie 0 1 5"):
                with self.assertRaises(BadText, msg=repr(text)):
                    read_web(text)

    def test_sixty_figures_are_well(self):
        for number in (10 ** 59, 10 ** 60 - 1, -10 ** 59, 1 - 10 ** 60, 0, 7, -7, 10, -10):
            self.look_at(f"places 2\ntie 1 0 {number}", Web(2, [(1, 0)]), [number])

    def test_no_web(self):
        for text in ("places 0", "places 15", "places -1", f"places {FAR}", f"places -{FAR}", "places 3\ntie 0 3 1",
                     "places 3\ntie 3 0 1", "places 3\ntie -1 0 1", f"places 3\ntie 0 {FAR} 1", "places 1\ntie 0 1 0",
                     "places 2" + "\ntie 0 1 4" * 31, "places 3\ntie 0 1 1\ntie 0 -1 1"):
            with self.assertRaises(BadWeb, msg=text):
                read_web(text)
        self.assertEqual(len(read_web("places 2" + "\ntie 0 1 4" * 30)[1]), 30)

    def test_a_bad_text_goes_ahead_of_no_web(self):
        for text in ("places 0\n", "places 15\ntie 0 1", "places 0\ntie 0 1 -0", "places 1\ntie 0 9 1\ntie 0 0 01",
                     "places 2" + "\ntie 0 1 4" * 31 + "\n", "places 99\nplaces 1"):
            with self.assertRaises(BadText, msg=repr(text)):
                read_web(text)

    def test_what_is_told_is_the_askers_own(self):
        web, lengths = read_web(TEXT)
        web.ties.clear()
        lengths.append(9)
        self.look_at(TEXT, Web(3, [(0, 1), (2, 1), (2, 2)]), [5, -12, 0])

    def test_a_bad_row(self):
        for web in (WEB, Web(1, []), Web(2, []), fullest_web()):
            for row in wrong_rows(web):
                with self.assertRaises(BadRow):
                    web_text(web, row)


if __name__ == "__main__":
    unittest.main()
