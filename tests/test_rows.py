"""Rows as they are read (points 26, 27)."""

import unittest

from paidspan.errors import NoAmount, NoDate, NoRow
from paidspan.rows import entry_of, form_of, read_row

DAY = 738944
DATE = "2024-02-29"


class Rows(unittest.TestCase):
    def test_entries(self):
        for row, change in ((f"{DATE} plan pro from 2024-03-01", ("plan", DAY + 1, "pro")),
                            (f"{DATE} plan from from 2024-03-01", ("plan", DAY + 1, "from")),
                            (f"{DATE} plan  from 2024-03-01", ("plan", DAY + 1, "")),
                            (f"{DATE} seats 0 from 2024-02-28", ("seats", DAY - 1, 0)),
                            (f"{DATE} hold from {DATE}", ("hold", DAY)), (f"{DATE} go from {DATE}", ("go", DAY)),
                            (f"{DATE} stop from {DATE}", ("stop", DAY)), (f"{DATE} last from {DATE}", ("last", DAY)),
                            (f"{DATE} undo 12", ("undo", 12)), (f"{DATE} grant 0.05", ("grant", 5)),
                            (f"{DATE} grant -1.00", ("grant", -100)), (f"{DATE} back", ("back",))):
            form, values = read_row(row, 2)
            self.assertTrue(form.startswith("DATE "), form)
            self.assertEqual(entry_of(values), (DAY, change))

    def test_questions(self):
        for word in ("state", "span", "lines", "sums"):
            self.assertEqual(read_row(f"{word} {DATE}", 2), (word + " DATE", [word, DAY]))
        self.assertEqual(read_row(f"moved {DATE} 2024-02-28", 0), ("moved DATE OTHER", ["moved", DAY, DAY - 1]))

    def test_what_can_be_read_as_a_question_is_one(self):
        for row in ("state back", "span back", "lines back", "sums back", "moved undo 5", "moved grant 5.00",
                    "moved undo x"):
            self.assertTrue(form_of(row.split(" ")).startswith(row.split(" ")[0]), row)
        self.assertEqual(form_of("state undo 5".split(" ")), "DATE undo N")
        self.assertEqual(form_of("moved back".split(" ")), "DATE back")

    def test_amounts_with_the_places(self):
        for places, word in ((0, "5"), (1, "0.5"), (2, "0.05"), (6, "0.000005")):
            self.assertEqual(entry_of(read_row(f"{DATE} grant {word}", places)[1]), (DAY, ("grant", 5)))
            self.assertRaises(NoAmount, read_row, f"{DATE} grant {word}", (places + 1) % 7)

    def test_refused(self):
        for row, refusal in (("", NoRow), (DATE, NoRow), ("back", NoRow), (" back", NoDate), (f"{DATE} undo 01", NoRow),
                             ("never grant x", NoDate), (f"{DATE} grant x", NoAmount), (f"{DATE} hold from never", NoDate)):
            self.assertRaises(refusal, read_row, row, 2)


if __name__ == "__main__":
    unittest.main()
