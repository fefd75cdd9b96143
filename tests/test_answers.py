"""Promises 46 and 47: the kinds of rows, and when the judge is asked."""

import random
import unittest

from regrowth.answers import Answers
from test_scopes import NOTES, binder_told, sheet_of


def kept_judge(asked):
    """A judge that tells a text of what it is asked, and keeps that in the list."""
    def judge(rule, given, found):
        asked.append((rule, list(given), found))
        return f"{rule}:{','.join(given)}:{found}"[:60]

    return judge


def sheet_with(*pieces):
    """A sheet of pieces (holder, row, row ..), each row a tuple (mark, rule, part, part ..); a part is a text, or the
    mark of a node."""
    told, words = [], 1000
    for holder, *rows in pieces:
        entry = []
        for mark, rule, *parts in rows:
            own = []
            for part in parts:
                words += 1
                own.append((words, part) if isinstance(part, str) else (part, None))
            entry.append((mark, rule, own))
        told.append((holder, entry))
    return told


class OneSheetTest(unittest.TestCase):
    def check(self, notes, sheet, kinds, asked):
        told = []
        self.assertEqual(Answers(notes, kept_judge(told)).reckon(sheet), kinds)
        self.assertEqual(told, asked)

    def test_no_pieces_and_no_rows(self):
        self.check([(-1, -1)], [], [], [])
        self.check([(-1, -1)], [(-1, []), (0, [])], [[], []], [])

    def test_given_of_words_and_nodes(self):
        sheet = sheet_with((-1, (1, 0, "a"), (2, 0, "b"), (3, 1, 1, "+", 2)))
        self.check([(-1, -1), (-1, -1)], sheet, [["0:a:None", "0:b:None", "1:0:a:None,+,0:b:None:None"]], [
            (0, ["a"], None), (0, ["b"], None), (1, ["0:a:None", "+", "0:b:None"], None),
        ])

    def test_found(self):
        # Rule 0 binds its first part, rule 2 asks for its first part.
        sheet = sheet_with((-1, (1, 0, "x", "one")), (-1, (2, 2, "x")), (-1, (3, 2, "y")), (-1, (4, 3, "x")))
        self.check(NOTES, sheet, [["0:x,one:None"], ["2:x:0:x,one:None"], ["2:y:None"], ["3:x:None"]], [
            (0, ["x", "one"], None), (2, ["x"], "0:x,one:None"), (2, ["y"], None), (3, ["x"], None),
        ])

    def test_not_in_the_own_piece(self):
        sheet = sheet_with((-1, (1, 0, "x"), (2, 2, "x"), (3, 4, "y", "x")), (-1, (4, 4, "y", "y")))
        self.check(NOTES, sheet, [["0:x:None", "2:x:None", "4:y,x:None"], ["4:y,y:4:y,x:None"]], [
            (0, ["x"], None), (2, ["x"], None), (4, ["y", "x"], None), (4, ["y", "y"], "4:y,x:None"),
        ])

    def test_found_through_holders(self):
        sheet = sheet_with(
            (-1, (1, 0, "x")), (0, (2, 0, "y")), (0, (3, 2, "y")), (2, (4, 2, "x")), (-1, (5, 2, "y"), (6, 2, "x")),
        )
        self.check(NOTES, sheet, [
            ["0:x:None"], ["0:y:None"], ["2:y:0:y:None"], ["2:x:0:x:None"], ["2:y:None", "2:x:0:x:None"],
        ], [
            (0, ["x"], None), (0, ["y"], None), (2, ["y"], "0:y:None"), (2, ["x"], "0:x:None"), (2, ["y"], None),
            (2, ["x"], "0:x:None"),
        ])

    def test_the_kind_of_the_binder_is_its_own_rows(self):
        # The row that binds asks itself, and is put into another one.
        sheet = sheet_with((-1, (1, 0, "x")), (-1, (2, 4, "x", "x"), (3, 3, 2)), (-1, (4, 2, "x")))
        answers = Answers(NOTES, lambda rule, given, found: f"{rule}<{found}>")
        self.assertEqual(answers.reckon(sheet), [["0<None>"], ["4<0<None>>", "3<None>"], ["2<4<0<None>>>"]])

    def test_the_text_without_signs_is_a_kind(self):
        sheet = sheet_with((-1, (1, 0, "x")), (-1, (2, 2, "x"), (3, 3, 2)))
        asked = []

        def judge(rule, given, found):
            asked.append((rule, given, found))
            return ""

        self.assertEqual(Answers(NOTES, judge).reckon(sheet), [[""], ["", ""]])
        self.assertEqual(asked, [(0, ["x"], None), (2, ["x"], ""), (3, [""], None)])

    def test_kinds_of_values(self):
        seen = []

        def judge(rule, given, found):
            seen.append((type(rule), type(given), type(found)))
            return "k"

        told = Answers(NOTES, judge).reckon(sheet_with((-1, (1, 0, "x")), (-1, (2, 2, "x"))))
        self.assertEqual(seen, [(int, list, type(None)), (int, list, str)])
        self.assertEqual([type(told), type(told[0])], [list, list])


class SheetsTest(unittest.TestCase):
    def reckon(self, *sheets):
        """What was asked for each sheet, by the numbers of the pieces and rows; the last kinds."""
        asked = []
        answers = Answers(NOTES, kept_judge(asked))
        told = []
        for sheet in sheets:
            asked.clear()
            kinds = answers.reckon(sheet)
            told.append(list(asked))
        return told, kinds

    def test_the_same_sheet_again(self):
        sheet = sheet_with((-1, (1, 0, "x"), (2, 3, 1)), (-1, (3, 2, "x")))
        told, kinds = self.reckon(sheet, sheet, sheet)
        self.assertEqual([len(asked) for asked in told], [3, 0, 0])
        self.assertEqual(kinds, [["0:x:None", "3:0:x:None:None"], ["2:x:0:x:None"]])

    def test_another_mark(self):
        told, kinds = self.reckon(sheet_with((-1, (1, 3, "x"))), sheet_with((-1, (2, 3, "x"))))
        self.assertEqual(told[1], [(3, ["x"], None)])

    def test_another_rule(self):
        told, kinds = self.reckon(sheet_with((-1, (1, 3, "x"))), sheet_with((-1, (1, 0, "x"))))
        self.assertEqual(told[1], [(0, ["x"], None)])
        self.assertEqual(kinds, [["0:x:None"]])

    def test_another_given(self):
        told, kinds = self.reckon(sheet_with((-1, (1, 3, "x"))), sheet_with((-1, (1, 3, "y"))))
        self.assertEqual(told[1], [(3, ["y"], None)])
        told, kinds = self.reckon(sheet_with((-1, (1, 3, "x", "y"))), sheet_with((-1, (1, 3, "x"))))
        self.assertEqual(told[1], [(3, ["x"], None)])

    def test_another_kind_of_a_node_within(self):
        told, kinds = self.reckon(
            sheet_with((-1, (1, 3, "x"), (2, 3, 1), (3, 3, 2))), sheet_with((-1, (1, 3, "y"), (2, 3, 1), (3, 3, 2))),
        )
        self.assertEqual(len(told[1]), 3)

    def test_the_same_kind_of_another_node_within(self):
        # What stands within has another mark, but its kind is as it was, so nothing is asked above it.
        told, kinds = self.reckon(
            sheet_with((-1, (1, 3, "x"), (2, 3, 1))), sheet_with((-1, (7, 3, "x"), (2, 3, 7))),
        )
        self.assertEqual(told[1], [(3, ["x"], None)])

    def test_another_found(self):
        before = sheet_with((-1, (1, 0, "x", "a")), (-1, (2, 2, "x")), (-1, (3, 2, "y")))
        after = sheet_with((-1, (1, 0, "x", "b")), (-1, (2, 2, "x")), (-1, (3, 2, "y")))
        told, kinds = self.reckon(before, after)
        self.assertEqual(told[1], [(0, ["x", "b"], None), (2, ["x"], "0:x,b:None")])
        without = sheet_with((-1,), (-1, (2, 2, "x")), (-1, (3, 2, "y")))
        told, kinds = self.reckon(before, without)
        self.assertEqual(told[1], [(2, ["x"], None)])
        told, kinds = self.reckon(without, before)
        self.assertEqual(told[1], [(0, ["x", "a"], None), (2, ["x"], "0:x,a:None")])

    def test_the_same_found_of_another_binder(self):
        before = sheet_with((-1, (1, 0, "x")), (-1, (2, 2, "x")))
        after = sheet_with((-1, (1, 0, "x")), (-1, (9, 0, "x")), (-1, (2, 2, "x")))
        told, kinds = self.reckon(before, after)
        self.assertEqual(told[1], [(0, ["x"], None)])

    def test_no_earlier_sheet_than_the_one_right_before(self):
        one = sheet_with((-1, (1, 3, "x")))
        other = sheet_with((-1, (2, 3, "y")))
        told, kinds = self.reckon(one, other, one)
        self.assertEqual([len(asked) for asked in told], [1, 1, 1])
        told, kinds = self.reckon(one, [], one)
        self.assertEqual([len(asked) for asked in told], [1, 0, 1])

    def test_what_was_taken_over_is_taken_over_again(self):
        row, more = (1, 3, "x"), (2, 3, "y")
        told, kinds = self.reckon(*[sheet_with((-1, row)), sheet_with((-1, row, more)), sheet_with((-1, more, row))])
        self.assertEqual([len(asked) for asked in told], [1, 1, 0])

    def test_in_another_piece(self):
        told, kinds = self.reckon(
            sheet_with((-1, (1, 3, "x")), (-1, (2, 3, "y"))), sheet_with((-1,), (0, (2, 3, "y"), (1, 3, "x"))),
        )
        self.assertEqual(told[1], [])
        self.assertEqual(kinds, [[], ["3:y:None", "3:x:None"]])

    def test_a_judge_that_changes_the_list_that_it_is_handed(self):
        asked = []

        def judge(rule, given, found):
            asked.append(list(given))
            given.reverse()
            given.append("more")
            return "k" + str(len(asked))

        answers = Answers(NOTES, judge)
        sheet = sheet_with((-1, (1, 3, "x", "y"), (2, 3, 1, "z")))
        self.assertEqual(answers.reckon(sheet), [["k1", "k2"]])
        self.assertEqual(answers.reckon(sheet), [["k1", "k2"]])
        self.assertEqual(asked, [["x", "y"], ["k1", "z"]])
        self.assertEqual(sheet, sheet_with((-1, (1, 3, "x", "y"), (2, 3, 1, "z"))))

    def test_a_judge_that_keeps_the_list_that_it_is_handed(self):
        kept = []

        def judge(rule, given, found):
            kept.append(given)
            return "k"

        answers = Answers(NOTES, judge)
        sheet = sheet_with((-1, (1, 3, "x")))
        answers.reckon(sheet)
        kept[0].clear()
        answers.reckon(sheet)
        self.assertEqual(len(kept), 1)

    def test_lists_that_were_told_or_handed_in_and_then_changed(self):
        asked = []
        notes = list(NOTES)
        answers = Answers(notes, kept_judge(asked))
        sheet = sheet_with((-1, (1, 0, "x")), (-1, (2, 2, "x"), (3, 3, 2)))
        told = answers.reckon(sheet)
        again = [list(kinds) for kinds in told]
        for kinds in told:
            kinds.clear()
        told.append(["x"])
        notes.clear()
        for holder, rows in sheet:
            for mark, rule, parts in rows:
                parts.clear()
            rows.clear()
        sheet.clear()
        asked.clear()
        self.assertEqual(answers.reckon(sheet_with((-1, (1, 0, "x")), (-1, (2, 2, "x"), (3, 3, 2)))), again)
        self.assertEqual(asked, [])

    def test_two_have_nothing_in_common(self):
        asked = []
        sheet = sheet_with((-1, (1, 3, "x")))
        for answers in (Answers(NOTES, kept_judge(asked)), Answers(NOTES, kept_judge(asked))):
            answers.reckon(sheet)
        self.assertEqual(len(asked), 2)


class ManySheetsTest(unittest.TestCase):
    """Rows of sheets by chance, against what points 45 to 47 tell."""

    def sheet(self, chance):
        pieces = []
        for number in range(chance.randint(0, 5)):
            holder = chance.choice([-1, -1] + list(range(number)))
            pieces.append([holder] + [
                f"{chance.choice([0, 0, 1, 2, 2, 3, 4])} " + " ".join(chance.choice("ab") for _ in range(3))
                for _ in range(chance.randint(0, 3))
            ])
        sheet = sheet_of(*pieces)
        marks = [row[0] for holder, rows in sheet for row in rows]
        shuffled = chance.sample(range(1, len(marks) + 3), len(marks))
        put_for = dict(zip(marks, shuffled))
        return [(holder, self.knit(chance, rows, put_for)) for holder, rows in sheet]

    def knit(self, chance, rows, put_for):
        """The rows with other marks, and some of their last words made nodes, where no note speaks of these."""
        told = []
        for mark, rule, parts in rows:
            if told and rule not in (1,) and chance.randint(0, 1):
                parts = parts[:2] + [(chance.choice(told)[0], None)]
            told.append((put_for[mark], rule, parts))
        return told

    def touched(self, chance, sheet):
        """The sheet with some words changed."""
        return [
            (holder, [
                (mark, rule, [(m, chance.choice("ab") if t and not chance.randint(0, 9) else t) for m, t in parts])
                for mark, rule, parts in rows
            ])
            for holder, rows in sheet
        ]

    def told(self, sheet, before):
        """What is asked, the kinds, and what the rows were judged by."""
        kinds, asked, judged = [], [], {}
        for number, (holder, rows) in enumerate(sheet):
            own = {}
            for mark, rule, parts in rows:
                given = [own[m] if t is None else t for m, t in parts]
                found = None
                if NOTES[rule][0] >= 0:
                    place = binder_told(sheet, NOTES, number, parts[NOTES[rule][0]][1])
                    found = kinds[place[0]][place[1]] if place else None
                if before.get(mark, [])[:3] == [rule, given, found]:
                    own[mark] = before[mark][3]
                else:
                    asked.append((rule, given, found))
                    own[mark] = str(hash_of(rule, given, found))
                judged[mark] = [rule, given, found, own[mark]]
            kinds.append([own[row[0]] for row in rows])
        return asked, kinds, judged

    def test_many(self):
        taken_over = 0
        for seed in range(150):
            chance = random.Random(seed)
            asked = []

            def judge(rule, given, found):
                asked.append((rule, list(given), found))
                return str(hash_of(rule, given, found))

            answers, before, sheet = Answers(NOTES, judge), {}, []
            for _ in range(12):
                sheet = self.touched(chance, sheet) if chance.randint(0, 2) else self.sheet(chance)
                due, kinds, before = self.told(sheet, before)
                asked.clear()
                self.assertEqual(answers.reckon(sheet), kinds)
                self.assertEqual(asked, due)
                taken_over += sum(len(rows) for holder, rows in sheet) - len(due)
        self.assertGreater(taken_over, 1000)


def hash_of(rule, given, found):
    """A small number, so that unlike rows often have the same kind."""
    return (rule + sum(map(len, given)) + len(found or "x")) % 3


if __name__ == "__main__":
    unittest.main()
