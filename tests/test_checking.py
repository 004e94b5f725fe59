"""tablestore.checking, by the point [6.7]."""

import copy
import itertools
import unittest

from tablestore.asking import read
from tablestore.checking import bound
from tablestore.errors import BadQuestion, NoColumn, NoTable, TableError

SHAPES = {
    "people": ("people", (("name", "text"), ("age", "number"), ("people", "text"))),
    "pets": ("pets", (("kind", "text"), ("owner", "number"), ("name", "text"))),
    "wide": ("wide", tuple([(letter, "number") for letter in "abcdefgh"])),
}


class Bound(unittest.TestCase):
    def check(self, text, wanted):
        self.assertEqual(bound(read(text), SHAPES), wanted)

    def check_refused(self, kind, *texts):
        for text in texts:
            with self.assertRaises(TableError) as caught:
                bound(read(text), SHAPES)
            self.assertIs(type(caught.exception), kind, text)

    def test_written_out(self):
        self.check("from people show people.age", ("ask", (("people", "people"),), None, (), (("cell", 0, 1),), None))
        self.check(
            'from people p, pets where p.name = pets.name and (pets.owner <> 5 or not "x" < p.people) '
            "order by pets.kind down, p.age show pets.name, p.name, p.age take 4",
            ("ask", (("people", "p"), ("pets", "pets")),
             ("and", ("test", "=", ("cell", 0, 0), ("cell", 1, 2)),
              ("or", ("test", "<>", ("cell", 1, 1), ("value", 5)), ("not", ("test", "<", ("value", "x"),
                                                                            ("cell", 0, 2))))),
             ((("cell", 1, 0), True), (("cell", 0, 1), False)),
             (("cell", 1, 2), ("cell", 0, 0), ("cell", 0, 1)), 4))

    def test_each_column_at_its_place(self):
        for place, letter in enumerate("abcdefgh"):
            self.check(f"from pets x, wide show wide.{letter}",
                       ("ask", (("pets", "x"), ("wide", "wide")), None, (), (("cell", 1, place),), None))

    def test_one_table_several_times(self):
        self.check(
            "from people a, people, people b where a.age < b.age order by people.name show b.name",
            ("ask", (("people", "a"), ("people", "people"), ("people", "b")),
             ("test", "<", ("cell", 0, 1), ("cell", 2, 1)), ((("cell", 1, 0), False),), (("cell", 2, 0),), None))

    def test_aliases_that_are_names_of_other_tables(self):
        self.check(
            "from people pets, pets people show pets.age, people.kind",
            ("ask", (("people", "pets"), ("pets", "people")), None, (), (("cell", 0, 1), ("cell", 1, 0)), None))
        self.check_refused(NoColumn, "from people pets, pets people show pets.kind",
                           "from people pets, pets people show people.age")

    def test_values_of_each_kind_stay(self):
        for text, value in (("none", None), ("0", 0), ("-7", -7), ('""', ""), ('"a""b"', 'a"b'),
                            ('"column"', "column")):
            self.check(f"from people where {text} = {text} show people.age", (
                "ask", (("people", "people"),), ("test", "=", ("value", value), ("value", value)), (),
                (("cell", 0, 1),), None))

    def test_kinds_are_not_looked_at(self):
        self.check('from people p where p.age = "x" show p.age', (
            "ask", (("people", "p"),), ("test", "=", ("cell", 0, 1), ("value", "x")), (), (("cell", 0, 1),), None))

    def test_no_table(self):
        self.check_refused(
            NoTable, "from nobody show nobody.x", "from people, nobody show people.age",
            "from nobody people show people.age",
            "from people, pets, nobody n show people.age", "from p show p.age")

    def test_an_alias_twice(self):
        self.check_refused(
            BadQuestion, "from people, people show people.age", "from people p, pets p show p.name",
            "from people pets, pets show pets.name",
            "from people a, pets b, wide a show b.name", "from people b, pets a, wide a show b.name")

    def test_an_alias_of_no_source(self):
        self.check_refused(
            BadQuestion, "from people show pets.name", "from people p show people.age",
            "from people p where people.age = 1 show p.age",
            "from people p where 1 = x.age show p.age", "from people p order by people.age show p.age",
            "from people p show p.age, q.age")

    def test_no_column(self):
        self.check_refused(
            NoColumn, "from people show people.kind", "from people p where p.kind = 1 show p.age",
            "from people p where 1 = p.p show p.age",
            "from people p order by p.kind show p.age", "from people p show p.age, p.owner", "from wide show wide.i")

    def test_the_order_in_which_they_are_refused(self):
        # Each alone, in the told order, with texts for the sources.
        self.check_refused(
            NoTable, "from people p, nobody p show x.y", "from nobody, nobody show x.y",
            "from nobody p, people p show p.kind",
            "from people p, people p, nobody q show x.y")
        self.check_refused(
            BadQuestion, "from people p, people p show p.kind", "from people p, people p where p.kind = 1 show x.y")
        faults = {"x.age": BadQuestion, "p.kind": NoColumn, "p.age": None}
        for columns in itertools.product(faults, repeat=5):
            one, two, three, four, five = columns
            text = f"from people p where {one} = 1 or not ({two} < {three}) order by {four} down show {five}"
            first = [faults[column] for column in columns if faults[column]][:1]
            if first:
                self.check_refused(first[0], text)
            else:
                bound(read(text), SHAPES)

    def test_column_by_column_from_the_left(self):
        self.check_refused(NoColumn, "from people p where p.kind = x.age show p.age",
                           "from people p where (1 = p.kind or x.y = 1) and 1=1 show p.age",
                           "from people p order by p.kind, x.y show p.age", "from people p show p.kind, x.y",
                           "from people p order by p.kind show x.y",
                           "from people p where p.age = p.kind order by x.y show p.age")
        self.check_refused(BadQuestion, "from people p where x.age = p.kind show p.age",
                           "from people p where 1 = 2 or (1 = x.kind and p.kind = 1) show p.age",
                           "from people p order by x.y, p.kind show p.age", "from people p show x.y, p.kind",
                           "from people p order by x.y show p.kind",
                           "from people p where p.age = x.y order by p.kind show p.age")

    def test_deep_trees(self):
        tree = ("test", "=", ("column", "p", "age"), ("value", 1))
        wanted = ("test", "=", ("cell", 0, 1), ("value", 1))
        for k in range(60):
            tree = ("not", tree) if k % 3 else ("or", tree, tree) if k < 6 else ("not", tree)
            wanted = ("not", wanted) if k % 3 else ("or", wanted, wanted) if k < 6 else ("not", wanted)
        whole = ("ask", (("people", "p"),), tree, (), (("column", "p", "name"),), None)
        self.assertEqual(bound(whole, SHAPES), ("ask", (("people", "p"),), wanted, (), (("cell", 0, 0),), None))

    def test_what_is_handed_in_stays(self):
        tree = read("from people p where p.age = 1 order by p.age show p.age")
        shapes = copy.deepcopy(SHAPES)
        kept = copy.deepcopy(tree)
        told = bound(tree, shapes)
        self.assertEqual((tree, shapes), (kept, SHAPES))
        shapes.clear()
        self.assertEqual(told, bound(tree, SHAPES))


if __name__ == "__main__":
    unittest.main()
