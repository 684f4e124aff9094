import unittest
from fractions import Fraction
from random import Random

from sampling import FAR, chance_webs, great_webs, plain_trees, some_webs, wheel_web
from spanrow.counts import tree_count
from spanrow.desk import Desk
from spanrow.errors import BadSet, BadText, BadWeb, NoSuch, NoTie, NothingBack, NoTree, Parted, WebError
from spanrow.ranking import ranked
from spanrow.rowing import row_from, row_next
from spanrow.texts import web_text
from test_cheapest import with_lengths
from test_rowing import plain_row
from test_texts import BAD_NUMBERS, BAD_TEXTS

START = "places 3\ntie 0 1 5\ntie 1 2 -4\ntie 2 0 5"
QUESTIONS = (
    "count", "tree 0", "tree 3", "row 1", "row 7", "number 0 1", "place 0 1", "next 0 1", "next 1 0", "share 0",
    "share -", "cheapest", "rank 3", "nothing", "place -", "number 0",
)
OTHER_LINES = (
    "", " ", "\n", "-", "0", "nothing", "Count", "COUNT", "counts", "count ", " count", "count 1", "count -",
    "count\n", "cheapest 0", "cheapest -", "cheapest ", "cheapest\n", "tree", "tree ", "tree  0", "tree 0 1", "tree -",
    "tree 0 ", "tree 0\n", "row", "row -", "row 0 0", "rank", "rank -", "rank 1 2", "rank ", "number", "number ",
    "place", "place ", "next", "next ", "share", "share ", "number - -", "number - 0", "number 0 -", "share 0 -",
    "share - 1", "share --", "number 0  1", "number 0 1 ", " number 0 1", "next 0,1", "place 0\n1", "grow",
    "tie 0 1 5", "strike 0", "stretch 0 1", "back", "text", "places 3", "tree 0\ncount", "none", "report",
    "number\t0 1",
)


class PlainDesk:
    """A desk that makes all anew, from the deeds that stand, for each question."""

    def __init__(self, text):
        self.first = text
        self.deeds = []

    def lines(self):
        lines = self.first.split("\n")
        for deed, *numbers in self.deeds:
            if deed == "grow":
                lines[0] = f"places {int(lines[0].split()[1]) + 1}"
            elif deed == "tie":
                lines.append("tie {} {} {}".format(*numbers))
            elif deed == "strike":
                lines.pop(numbers[0] + 1)
            elif deed == "stretch":
                words = lines[numbers[0] + 1].split()
                lines[numbers[0] + 1] = " ".join(words[:3] + [str(numbers[1])])
        return lines

    def refusal(self, deed, *numbers):
        """The class that refuses a deed, or None."""
        lines = self.lines()
        places, ties = int(lines[0].split()[1]), len(lines) - 1
        if deed == "grow":
            return BadWeb if places == 14 else None
        if deed == "tie":
            return None if ties < 30 and all(0 <= end < places for end in numbers[:2]) else BadWeb
        return None if 0 <= numbers[0] < ties else NoTie


def chance_deed(chance):
    deed = chance.choice(["grow", "tie", "tie", "tie", "strike", "stretch", "stretch"])
    numbers = {"grow": 0, "strike": 1, "stretch": 2, "tie": 3}[deed]
    row = [chance.choice([chance.randint(-1, 4), chance.randint(0, 3)]) for number in range(numbers)]
    if numbers > 1:
        row[-1] = chance.choice([0, 1, -3, chance.randint(-FAR, FAR)])
    return (deed, *row)


def answer_or_refusal(desk, line):
    try:
        return desk.asked(line)
    except WebError as refused:
        return type(refused)


class Deeds(unittest.TestCase):
    """[12.2]"""

    def test_told_by_hand(self):
        desk = Desk(START)
        self.assertEqual(desk.text(), START)
        self.assertEqual(desk.grow(), 1)
        self.assertEqual(desk.text(), "places 4\ntie 0 1 5\ntie 1 2 -4\ntie 2 0 5")
        self.assertEqual(desk.asked("count"), "0")
        self.assertEqual(desk.tie(3, 0, -7), 2)
        self.assertEqual(desk.text(), "places 4\ntie 0 1 5\ntie 1 2 -4\ntie 2 0 5\ntie 3 0 -7")
        self.assertEqual(desk.asked("count"), "3")
        self.assertEqual(desk.strike(1), 3)
        self.assertEqual(desk.text(), "places 4\ntie 0 1 5\ntie 2 0 5\ntie 3 0 -7")
        self.assertEqual(desk.stretch(0, 6), 4)
        self.assertEqual(desk.text(), "places 4\ntie 0 1 6\ntie 2 0 5\ntie 3 0 -7")
        self.assertEqual(desk.back(), 3)
        self.assertEqual(desk.text(), "places 4\ntie 0 1 5\ntie 2 0 5\ntie 3 0 -7")
        self.assertEqual([desk.back(), desk.back(), desk.back()], [2, 1, 0])
        self.assertEqual(desk.text(), START)
        with self.assertRaises(NothingBack):
            desk.back()
        self.assertEqual(desk.text(), START)
        self.assertEqual(desk.grow(), 1)

    def test_against_webs_made_anew(self):
        for seed in range(40):
            chance = Random(seed)
            text = chance.choice([START, "places 1", "places 2\ntie 0 0 1", "places 13\ntie 0 1 0",
                                  "places 3" + "\ntie 0 1 4" * 28])
            desk, plain = Desk(text), PlainDesk(text)
            for step in range(40):
                if chance.random() < 0.3:
                    self.go_back(desk, plain)
                else:
                    self.do(desk, plain, chance_deed(chance))
                self.assertEqual(desk.text(), "\n".join(plain.lines()))
                if step % 8 == 0:
                    anew = Desk(desk.text())
                    for line in QUESTIONS:
                        self.assertEqual(answer_or_refusal(desk, line), answer_or_refusal(anew, line))
            while plain.deeds:
                self.go_back(desk, plain)
                self.assertEqual(desk.text(), "\n".join(plain.lines()))
            self.go_back(desk, plain)

    def do(self, desk, plain, deed):
        refusal = plain.refusal(*deed)
        if refusal is None:
            plain.deeds.append(deed)
            self.assertEqual(getattr(desk, deed[0])(*deed[1:]), len(plain.deeds))
        else:
            with self.assertRaises(refusal):
                getattr(desk, deed[0])(*deed[1:])

    def go_back(self, desk, plain):
        if plain.deeds:
            plain.deeds.pop()
            self.assertEqual(desk.back(), len(plain.deeds))
        else:
            with self.assertRaises(NothingBack):
                desk.back()

    def test_refused_deeds_change_nothing(self):
        desk = Desk("places 14\ntie 13 0 1")
        text = desk.text()
        with self.assertRaises(BadWeb):
            desk.grow()
        for one, other in ((14, 0), (0, 14), (-1, 0), (0, -1), (FAR, 0), (0, -FAR)):
            with self.assertRaises(BadWeb):
                desk.tie(one, other, 1)
        for tie in (-1, 1, 2, FAR, -FAR):
            with self.assertRaises(NoTie):
                desk.strike(tie)
            with self.assertRaises(NoTie):
                desk.stretch(tie, 5)
        with self.assertRaises(BadText):
            desk.asked("nothing")
        with self.assertRaises(NothingBack):
            desk.back()
        self.assertEqual(desk.text(), text)
        self.assertEqual(desk.stretch(0, 1), 1)
        self.assertEqual(desk.back(), 0)

    def test_the_most_ties(self):
        desk = Desk("places 2" + "\ntie 0 1 4" * 29)
        self.assertEqual(desk.tie(1, 1, 0), 1)
        with self.assertRaises(BadWeb):
            desk.tie(0, 1, 0)
        self.assertEqual(desk.strike(0), 2)
        self.assertEqual(desk.tie(0, 1, 3), 3)
        self.assertEqual(desk.text(), "places 2" + "\ntie 0 1 4" * 28 + "\ntie 1 1 0\ntie 0 1 3")

    def test_desks_are_apart(self):
        one, other = Desk(START), Desk(START)
        one.tie(0, 0, 1)
        one.stretch(0, 9)
        self.assertEqual(other.text(), START)
        with self.assertRaises(NothingBack):
            other.back()

    def test_texts_that_are_refused(self):
        for text in BAD_TEXTS:
            with self.assertRaises(BadText):
                Desk(text)
        for text in ("places 0", "places 15", "places 2\ntie 0 2 1", "places 2" + "\ntie 0 1 4" * 31):
            with self.assertRaises(BadWeb):
                Desk(text)


class Asked(unittest.TestCase):
    """[12.3]"""

    def test_told_by_hand(self):
        desk = Desk(START)
        for line, answer in (
                ("count", "3"), ("tree 0", "0 1"), ("tree 2", "1 2"), ("row 0", "0 1"), ("row 1", "1 2"),
                ("row 2", "0 2"), ("number 1 2", "2"), ("place 1 2", "1"), ("next 0 1", "1 2"), ("next 0 2", "none"),
                ("share 0", "2/3"), ("share 0 1", "1/3"), ("share 0 1 2", "0/1"), ("share -", "1/1"),
                ("cheapest", "0 1"), ("rank 0", ""), ("rank 1", "1: 0 1"), ("rank 2", "1: 0 1\n1: 1 2"),
                ("rank 60", "1: 0 1\n1: 1 2\n10: 0 2")):
            self.assertEqual(desk.asked(line), answer, line)
        self.assertEqual(desk.text(), START)

    def test_one_place(self):
        for text in ("places 1", "places 1\ntie 0 0 -5"):
            desk = Desk(text)
            for line, answer in (("count", "1"), ("tree 0", "-"), ("row 0", "-"), ("number -", "0"), ("place -", "0"),
                                 ("next -", "none"), ("share -", "1/1"), ("cheapest", "-"), ("rank 1", "0: -"),
                                 ("rank 60", "0: -"), ("rank 0", "")):
                self.assertEqual(desk.asked(line), answer, line)
            for line, refusal in (("tree 1", NoSuch), ("row -1", NoSuch), ("number 0", NoTree), ("next 0", NoTree)):
                with self.assertRaises(refusal):
                    desk.asked(line)

    def test_no_tree(self):
        for text in ("places 2", "places 3\ntie 0 1 2\ntie 1 0 2\ntie 2 2 1"):
            desk = Desk(text)
            for line, answer in (("count", "0"), ("rank 0", ""), ("rank 5", "")):
                self.assertEqual(desk.asked(line), answer)
            for line, refusal in (
                    ("tree 0", NoSuch), ("tree -1", NoSuch), ("row 0", NoSuch), ("number -", NoTree),
                    ("number 0 1", NoTree), ("place -", NoTree), ("place 0 1", NoTree), ("next -", NoTree),
                    ("next 0", NoTree), ("share -", Parted), ("share 9", BadSet), ("cheapest", Parted)):
                with self.assertRaises(refusal, msg=line):
                    desk.asked(line)

    def test_one_tree(self):
        desk = Desk("places 3\ntie 2 2 -9\ntie 0 1 5\ntie 1 2 -7")
        for line, answer in (("count", "1"), ("tree 0", "1 2"), ("row 0", "1 2"), ("number 1 2", "0"),
                             ("place 1 2", "0"), ("next 1 2", "none"), ("share 1", "1/1"), ("share 0", "0/1"),
                             ("cheapest", "1 2"), ("rank 9", "-2: 1 2")):
            self.assertEqual(desk.asked(line), answer)

    def test_against_all_trees(self):
        for web, lengths in with_lengths(151, some_webs() + chance_webs(152, 30, 5, 8), 1):
            trees, row = plain_trees(web), plain_row(web)
            desk = Desk(web_text(web, lengths))
            self.assertEqual(desk.asked("count"), str(len(trees)))
            for number, tree in enumerate(trees):
                words = " ".join(str(tie) for tie in tree) or "-"
                place = row.index(tree)
                self.assertEqual(desk.asked(f"tree {number}"), words)
                self.assertEqual(desk.asked(f"row {place}"), words)
                self.assertEqual(desk.asked(f"number {words}"), str(number))
                self.assertEqual(desk.asked(f"place {words}"), str(place))
                behind = " ".join(str(tie) for tie in row[place + 1]) if place + 1 < len(row) else "none"
                self.assertEqual(desk.asked(f"next {words}"), behind)
            if trees:
                self.look_at_shares_and_lengths(desk, web, lengths, trees)

    def look_at_shares_and_lengths(self, desk, web, lengths, trees):
        for tie in range(len(web.ties)):
            share = Fraction(sum(1 for tree in trees if tie in tree), len(trees))
            self.assertEqual(desk.asked(f"share {tie}"), f"{share.numerator}/{share.denominator}")
        order = sorted((sum(lengths[tie] for tie in tree), tree) for tree in trees)
        lines = [f"{length}: {' '.join(str(tie) for tie in tree) or '-'}" for length, tree in order]
        for most in (0, 1, 2, 60):
            self.assertEqual(desk.asked(f"rank {most}"), "\n".join(lines[:most]))
        self.assertEqual(desk.asked("cheapest"), " ".join(str(tie) for tie in order[0][1]) or "-")

    def test_great_webs(self):
        for web, lengths in with_lengths(153, great_webs(154, 3) + [wheel_web()], 1):
            desk = Desk(web_text(web, lengths))
            size = tree_count(web)
            self.assertEqual(desk.asked("count"), str(size))
            (tree,) = row_from(web, size // 2, 1)
            words = " ".join(str(tie) for tie in tree)
            self.assertEqual(desk.asked(f"row {size // 2}"), words)
            self.assertEqual(desk.asked(f"place {words}"), str(size // 2))
            self.assertEqual(desk.asked(f"tree {desk.asked(f'number {words}')}"), words)
            self.assertEqual(desk.asked(f"next {words}"), " ".join(str(tie) for tie in row_next(web, tree)))
            self.assertEqual(desk.asked("rank 60").split("\n"), [
                f"{length}: {' '.join(str(tie) for tie in its)}" for length, its in ranked(web, lengths, 60)])

    def test_every_other_line(self):
        lines = list(OTHER_LINES)
        for word in BAD_NUMBERS:
            lines += [f"{name} {word}" for name in ("tree", "row", "rank")]
            if word != "-":
                lines += [f"{name} {word}" for name in ("number", "place", "next", "share")]
            lines += [f"{name} 0 {word}" for name in ("number", "place", "next", "share")]
        for text in (START, "places 1", "places 2"):
            desk = Desk(text)
            for line in lines:
                with self.assertRaises(BadText, msg=repr(line)):
                    desk.asked(line)
            self.assertEqual(desk.text(), text)

    def test_the_refusals_of_what_is_asked(self):
        desk = Desk(START)
        for line, refusal in (
                ("tree 3", NoSuch), ("tree -1", NoSuch), (f"tree {FAR}", NoSuch), ("row 3", NoSuch), ("row -1", NoSuch),
                (f"row -{FAR}", NoSuch), ("number 0", NoTree), ("number 1 0", NoTree), ("number 0 0", NoTree),
                ("number -1 0", NoTree), ("number 0 3", NoTree), ("number 0 1 2", NoTree), ("number -", NoTree),
                ("place 0 9", NoTree), ("place -", NoTree), ("next 2 1", NoTree), ("next -", NoTree),
                (f"next 0 {FAR}", NoTree), ("share 1 0", BadSet), ("share 0 0", BadSet), ("share 3", BadSet),
                ("share -1", BadSet), (f"share {FAR}", BadSet)):
            with self.assertRaises(refusal, msg=line):
                desk.asked(line)

    def test_answers_follow_the_deeds(self):
        desk = Desk(START)
        self.assertEqual(desk.asked("cheapest"), "0 1")
        desk.stretch(0, 6)
        self.assertEqual(desk.asked("cheapest"), "1 2")
        desk.strike(1)
        self.assertEqual((desk.asked("count"), desk.asked("rank 9")), ("1", "11: 0 1"))
        desk.back()
        desk.back()
        self.assertEqual((desk.asked("count"), desk.asked("cheapest")), ("3", "0 1"))

    def test_long_lengths(self):
        desk = Desk(f"places 3\ntie 0 1 {FAR}\ntie 1 2 {FAR}")
        self.assertEqual(desk.asked("rank 1"), f"{2 * FAR}: 0 1")
        self.assertEqual(len(str(2 * FAR)), 61)


if __name__ == "__main__":
    unittest.main()
