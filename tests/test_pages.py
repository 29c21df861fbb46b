"""Promises 52 and 53: pages of halls."""

import random
import string
import unittest

from ownchute.errors import InvalidPage
from ownchute.halls import Hall
from ownchute.pages import read_page, write_page
from tests.drawn import ANY_VALUES, assert_refused, drawn_plants, drawn_values, shown
from tests.hall_model import TEXTS, told
from tests.test_halls import hall_with
from tests.test_plants import fields_of_text

ALL = "abcdefghijklm"


def page_of(plants):
    return "".join(f"plant {name} {text}\n" for name, text in plants)


def wrong_line(text):
    """Return the index of the first line that cannot stand there or lacks its line feed, None for a page."""
    last, many = "", 0
    while text:
        line, feed, text = text.partition("\n")
        words = line.split(" ", 2)
        if not feed or len(words) < 3 or words[0] != "plant" or fields_of_text(words[2]) is None or many == 12:
            return many
        if not 1 <= len(words[1]) <= 8 or words[1].strip(string.ascii_lowercase) or words[1] <= last:
            return many
        last, many = words[1], many + 1
    return None


def drawn_plants_of_page(source, many):
    names = sorted({"".join(source.choices(string.ascii_lowercase, k=source.randint(1, 8))) for _ in range(many)})
    return [(name, plant.text) for name, plant in zip(names, drawn_plants(source.randrange(10 ** 6), len(names)))]


class Pages(unittest.TestCase):

    def test_literals(self):
        self.assertEqual(write_page(Hall()), "")
        hall = hall_with(*TEXTS[:2])
        hall.apply(("keep", "ab", TEXTS[2]))
        page = f"plant a {TEXTS[0]}\nplant ab {TEXTS[2]}\nplant b {TEXTS[1]}\n"
        self.assertEqual(shown(write_page(hall)), shown(page))
        self.assertEqual(write_page(hall=hall), page)
        self.assertTrue(read_page(text=page) == hall)

    def test_empty_page(self):
        hall = read_page("")
        self.assertIs(type(hall), Hall)
        self.assertEqual(told(hall), told(Hall()))
        self.assertEqual(told(hall), ([], [], [], 0, 6, (0, 0), False, 0, "Hall(0 plants)"))

    def test_drawn_halls(self):
        source = random.Random(281)
        for turn in range(60):
            plants = drawn_plants_of_page(source, turn % 13)
            hall = Hall(limit=12)
            source.shuffle(plants)
            for name, text in plants:
                hall.apply(("keep", name, text))
            page = page_of(sorted(plants))
            self.assertEqual(write_page(hall), page)
            again = read_page(page)
            self.assertTrue(again == hall)
            self.assertEqual(told(again)[:8], (sorted(name for name, _ in plants), [text for _, text in sorted(plants)],
                                               [], 0, max(6, len(plants)), (0, 0), False, len(plants)))
            self.assertEqual(write_page(again), page)

    def test_hall_that_is_read_has_no_steps_and_no_words(self):
        hall = hall_with(*TEXTS[:3], limit=9)
        hall.word_of("a")
        hall.undo()
        page = write_page(hall)
        again = read_page(page)
        self.assertEqual((again.history(), again.kept(), again.computed, again.limit), ((0, 0), [], 0, 6))
        self.assertEqual((hall.history(), hall.kept(), hall.computed, hall.limit), ((2, 1), ["a"], 1, 9))
        again.apply(("drop", "a"))
        again.undo()
        self.assertEqual((write_page(again), write_page(hall)), (page, page))

    def test_limit_of_the_hall_that_is_read(self):
        for many in range(13):
            hall = read_page(page_of([(ALL[at], TEXTS[at % 6]) for at in range(many)]))
            self.assertEqual((hall.limit, len(hall)), (max(6, many), many))


class BentPages(unittest.TestCase):

    def check(self, text):
        at = wrong_line(text)
        if at is None:
            self.assertEqual(write_page(read_page(text)), text)
        else:
            assert_refused(self, InvalidPage, at, read_page, text)
        return at

    def lines(self):
        return [f"plant {name} {text}\n" for name, text in zip(("a", "bb", "c", "plant", "zzzzzzzz"), TEXTS)]

    def test_lines_left_out_doubled_and_exchanged(self):
        lines = self.lines()
        for at in range(len(lines)):
            self.assertIsNone(self.check("".join(lines[:at] + lines[at + 1:])))
            self.assertEqual(self.check("".join(lines[:at + 1] + lines[at:])), at + 1)
            for other in range(at + 1, len(lines)):
                bent = list(lines)
                bent[at], bent[other] = bent[other], bent[at]
                self.assertEqual(self.check("".join(bent)), at + 1)

    def test_last_line_feed(self):
        lines = self.lines()
        for many in range(1, 6):
            self.assertEqual(self.check("".join(lines[:many])[:-1]), many - 1)
            self.assertEqual(self.check("".join(lines[:many]) + "plant"), many)
            self.assertEqual(self.check("".join(lines[:many]) + " "), many)
            self.assertEqual(self.check("".join(lines[:many]) + "\n"), many)
        self.assertEqual(self.check("".join(lines[:2]) + "x\n" + lines[2][:-1]), 2)

    def test_wrong_lines_at_any_place(self):
        text = TEXTS[0]
        wrong = ["", " ", "plant", "plant ", "plant d", "plant d ", f"plant  {text}", f"plant d  {text}",
                 f"plant d {text} ", f" plant d {text}", f"Plant d {text}", f"plants d {text}", f"d {text}", text,
                 f"plant D {text}", f"plant ddddddddd {text}", f"plant d1 {text}", f"plant d {text} x",
                 f"plant d d {text}", f"plant d {text.upper()}", "plant d " + text.replace("1 4", "1 7"),
                 f"keep d {text}", f"plant d\t{text}", f"plant d {text}\r"]
        lines = self.lines()
        for line in wrong:
            for at in range(len(lines) + 1):
                self.assertEqual(self.check("".join(lines[:at] + [line + "\n"] + lines[at:])), at, line)
                self.assertEqual(self.check("".join(lines[:at] + [line + "\n", "x\n"] + lines[at:])), at)
                if at < len(lines):
                    self.assertEqual(self.check("".join(lines[:at] + [line + "\n"] + lines[at + 1:])), at)

    def test_names_that_do_not_ascend(self):
        for names, at in ((("a", "a"), 1), (("b", "a"), 1), (("ab", "b", "aa"), 2), (("ab", "a"), 1), (("a", "ab"), None),
                          (("abc", "abd", "abd"), 2), (("z", "aa", "a"), 1)):
            self.assertEqual(self.check(page_of([(name, TEXTS[0]) for name in names])), at)

    def test_thirteen_plants(self):
        plants = [(ALL[at], TEXTS[at % 6]) for at in range(13)]
        self.assertEqual(self.check(page_of(plants)), 12)
        self.assertIsNone(self.check(page_of(plants[:12])))
        self.assertIsNone(self.check(page_of(plants[1:])))
        self.assertEqual(self.check(page_of(plants) + "x"), 12)
        self.assertEqual(self.check(page_of(plants)[:-1]), 12)
        self.assertEqual(self.check(page_of(plants[:4]) + "x\n" + page_of(plants[4:])), 4)

    def test_letters_bent(self):
        source = random.Random(282)
        page = "".join(self.lines()[:3])
        found = set()
        for at in range(len(page)):
            for sign in ("", " ", "\n", page[at] * 2, source.choice("abz019A~")):
                found.add(self.check(page[:at] + sign + page[at + 1:]))
        self.assertTrue({0, 1, 2} <= found)

    def test_values_of_other_kinds(self):
        for value in list(ANY_VALUES) + drawn_values(283, 100) + [["plant"], (TEXTS[0],), self.lines()]:
            if not isinstance(value, str):
                assert_refused(self, InvalidPage, 0, read_page, value)
            elif value:
                self.check(value)


if __name__ == "__main__":
    unittest.main()
