import unittest
from fractions import Fraction

from sampling import FAR, WEB, chance_webs, fullest_web, great_webs, plain_trees, some_webs, web_state
from spanrow.counts import tree_count
from spanrow.errors import BadRow
from spanrow.report import report
from spanrow.webs import Web
from test_cheapest import LENGTHS, PARTED, cheapest_of, plain_length, with_lengths, wrong_rows


def words_of(tree):
    return " ".join(str(tie) for tie in tree) or "-"


class Report(unittest.TestCase):
    """report, with [12.3] for how things are written"""

    def test_told_by_hand(self):
        self.assertEqual(report(WEB, LENGTHS), [
            "trees 5", "cheapest 9: 0 1 5", "tie 0: 3/5", "tie 1: 2/5", "tie 2: 2/5", "tie 3: 0/1", "tie 4: 3/5",
            "tie 5: 1/1"])
        self.assertEqual(report(Web(1, []), []), ["trees 1", "cheapest 0: -"])
        self.assertEqual(report(Web(1, [(0, 0)]), [-4]), ["trees 1", "cheapest 0: -", "tie 0: 0/1"])
        self.assertEqual(report(Web(2, [(1, 0)]), [-FAR]), ["trees 1", f"cheapest -{FAR}: 0", "tie 0: 1/1"])

    def test_webs_without_a_tree(self):
        for web in PARTED:
            self.assertEqual(report(web, [3] * len(web.ties)), ["trees 0"])

    def test_against_all_trees(self):
        for web, lengths in with_lengths(161, some_webs() + chance_webs(162, 60, 6, 9), 1):
            before = (web_state(web), list(lengths))
            trees = plain_trees(web)
            asked = [f"trees {len(trees)}"]
            if trees:
                tree = cheapest_of(trees, lengths)[0]
                asked.append(f"cheapest {plain_length(lengths, tree)}: {words_of(tree)}")
                for tie in range(len(web.ties)):
                    share = Fraction(sum(1 for tree in trees if tie in tree), len(trees))
                    asked.append(f"tie {tie}: {share.numerator}/{share.denominator}")
            told = report(web, lengths)
            self.assertEqual(told, asked)
            self.assertIs(type(told), list)
            self.assertEqual(report(web, tuple(lengths)), asked)
            self.assertEqual((web_state(web), lengths), before)

    def test_great_webs(self):
        for web, lengths in with_lengths(163, great_webs(164, 3) + [fullest_web()], 1):
            told = report(web, lengths)
            self.assertEqual((len(told), told[0]), (32, f"trees {tree_count(web)}"))
            self.assertEqual(sum(Fraction(line.split(": ")[1]) for line in told[2:]), 13)

    def test_a_bad_row(self):
        for web in [WEB, Web(1, []), fullest_web()] + PARTED:
            for row in wrong_rows(web):
                with self.assertRaises(BadRow):
                    report(web, row)

    def test_the_list_is_the_askers_own(self):
        report(WEB, LENGTHS).clear()
        self.assertEqual(report(WEB, LENGTHS)[0], "trees 5")


if __name__ == "__main__":
    unittest.main()
