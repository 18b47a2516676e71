"""The errors: fields, built-in classes."""

from rockbeds import errors
from tests.case import Case, any_values

FIELDS = {
    ValueError: {
        "InvalidName": ["value"], "InvalidLevel": ["value"], "InvalidBeds": ["value"], "InvalidColumns": ["value"],
        "InvalidEvent": ["value"], "InvalidSpan": ["value"], "InvalidOrder": ["value"], "InvalidSpans": ["value"],
        "InvalidLimit": ["value"], "WrongWidth": ["width"], "Repeated": ["item"], "Ringed": ["ring"],
        "ParseError": ["line", "word"],
    },
    IndexError: {"NoColumn": ["at"], "NoPlace": ["at"]},
    LookupError: {"NoField": ["name"]},
    OverflowError: {"TooMany": ["most"]},
    RuntimeError: {"Stopped": ["index", "error"], "NothingToUndo": [], "NothingToRedo": []},
}


def each_error():
    for base, names in FIELDS.items():
        for name, fields in names.items():
            yield base, getattr(errors, name), fields


class ErrorsTest(Case):

    def test_none_is_missing_and_none_is_more(self):
        own = [name for name, value in vars(errors).items() if isinstance(value, type)]
        self.assertEqual(sorted(own), sorted([error.__name__ for _, error, _ in each_error()]))

    def test_each_is_a_direct_subclass_of_its_one_built_in_class(self):
        for base, error, _ in each_error():
            self.assertEqual(error.__bases__, (base,), error)
            self.assertEqual(error.__module__, "rockbeds.errors")

    def test_fields_of_any_values_are_attributes_in_order(self):
        values = any_values()
        for _, error, fields in each_error():
            for at in range(len(values)):
                given = [values[(at + shift) % len(values)] for shift in range(len(fields))]
                made = error(*given)
                self.assertEqual(list(vars(made)), fields)
                for field, value in zip(fields, given):
                    self.same(getattr(made, field), value)

    def test_it_takes_exactly_its_fields(self):
        for _, error, fields in each_error():
            if not fields:
                self.assertIsInstance(error(), RuntimeError)
                continue
            self.assertRaises(TypeError, error, *fields[1:])
            self.assertRaises(TypeError, error, *fields, 1)

    def test_it_can_be_raised_and_caught(self):
        for base, error, fields in each_error():
            with self.assertRaises(base) as caught:
                raise error(*fields)
            self.assertIs(type(caught.exception), error)

    def test_the_error_of_a_stop_is_the_error_itself(self):
        inner = errors.NoColumn(3)
        self.assertIs(errors.Stopped(0, inner).error, inner)

    def test_what_becomes_of_a_passed_value_does_not_change_the_error(self):
        value = [1, ([2], {"a": [3]})]
        made = errors.InvalidOrder(value)
        value.append(4)
        value[1][0].append(5)
        value[1][1]["a"].append(6)
        self.same(made.value, [1, ([2], {"a": [3]})])

    def test_no_error_is_equal_to_another_value(self):
        for value in any_values():
            self.unequal(errors.InvalidName(value), value)
