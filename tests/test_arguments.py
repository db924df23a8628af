"""Point [2]: arguments stay as they were, and results share nothing with them that may change."""

import unittest

from neverleaves.expressions import check_condition, check_expression, holds, names_in, value_of
from neverleaves.texts import (
    read_condition, read_expression, read_plant, write_condition, write_expression, write_plant,
)
from tests.samples import WRITTEN_CONDITIONS, WRITTEN_EXPRESSIONS
from tests.test_plant_texts import PLANTS


class Values(dict):
    """A dict that tells if it is changed."""

    def refuse(self, *told):
        raise AssertionError("the values were changed")

    __setitem__ = __delitem__ = clear = pop = popitem = setdefault = update = refuse


class Arguments(unittest.TestCase):
    def unchanged(self, function, *arguments):
        before = repr(arguments)
        first = function(*arguments)
        self.assertEqual(repr(arguments), before)
        self.assertEqual(repr(function(*arguments)), repr(first))

    def test_expressions(self):
        for expression, text in WRITTEN_EXPRESSIONS:
            values = Values({name: 3 for name in names_in(expression)} | {"more": 4})
            self.unchanged(check_expression, expression)
            self.unchanged(names_in, expression)
            self.unchanged(write_expression, expression)
            self.unchanged(read_expression, text)
            self.unchanged(value_of, expression, values)

    def test_conditions(self):
        for condition, text in WRITTEN_CONDITIONS:
            values = Values({name: 3 for name in names_in(condition)} | {"more": 4})
            self.unchanged(check_condition, condition)
            self.unchanged(names_in, condition)
            self.unchanged(write_condition, condition)
            self.unchanged(read_condition, text)
            self.unchanged(holds, condition, values)

    def test_plants(self):
        for plant, text in PLANTS:
            self.unchanged(write_plant, plant)
            self.unchanged(read_plant, text)

    def test_later_changes_to_the_values_count_only_later(self):
        values = {"x": 3}
        before = value_of(("name", "x"), values)
        values["x"] = 4
        self.assertEqual((before, value_of(("name", "x"), values)), (3, 4))

    def test_what_is_read_is_made_of_tuples_throughout(self):
        for _, text in WRITTEN_EXPRESSIONS:
            hash(read_expression(text))
        for _, text in WRITTEN_CONDITIONS:
            hash(read_condition(text))
        for _, text in PLANTS:
            hash(read_plant(text))


if __name__ == "__main__":
    unittest.main()
