"""Which requests of a schema a condition matches."""

from hiddenrank.conditions import tests_of
from hiddenrank.errors import UnknownValue


def check_condition(schema, condition):
    """Raises UnknownField or UnknownValue for the first test that does not fit the schema."""
    for field, value in tests_of(condition):
        if value not in schema.values_of(field):
            raise UnknownValue(value)


def holds(fields, condition, request):
    """Returns whether a condition that fits the list of fields matches a request."""
    kind = condition[0]
    if kind == "any":
        return True
    if kind == "test":
        return request[fields.index(condition[1])] == condition[2]
    if kind == "not":
        return not holds(fields, condition[1], request)
    answers = [holds(fields, part, request) for part in condition[1:]]
    if kind == "and":
        return all(answers)
    return any(answers)


def truths(schema, condition):
    """Returns, for each request in the order of the numbers, whether a condition that fits the schema matches it."""
    fields = schema.fields()
    return [holds(fields, condition, schema.request_of(number)) for number in range(schema.size())]


def matches(schema, condition, request):
    """Returns whether a condition matches a request."""
    check_condition(schema, condition)
    # number_of refuses a tuple that is not a request; the number itself is not needed.
    schema.number_of(request)
    return holds(schema.fields(), condition, request)


def matching(schema, condition):
    """Returns the ascending list of the numbers of the requests that a condition matches."""
    check_condition(schema, condition)
    return [number for number, matched in enumerate(truths(schema, condition)) if matched]


def truths_of_both(schema, one, other):
    """Returns, for each request in the order of the numbers, the pair of the truths of two conditions."""
    check_condition(schema, one)
    check_condition(schema, other)
    return list(zip(truths(schema, one), truths(schema, other)))


def first_difference(schema, one, other):
    """Returns the least number of a request that exactly one of two conditions matches, or None."""
    for number, (left, right) in enumerate(truths_of_both(schema, one, other)):
        if left != right:
            return number
    return None


def first_exception(schema, one, other):
    """Returns the least number of a request that the first condition matches and the other one does not, or None."""
    for number, (left, right) in enumerate(truths_of_both(schema, one, other)):
        if left and not right:
            return number
    return None
