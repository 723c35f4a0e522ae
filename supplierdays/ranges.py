"""What each call is given, and the ranges of that."""

# By the call's number.
ARGUMENTS = (
    ("supplier", "supplier", "business days", "business days"),
    ("day",),
    (),
    ("day",),
    ("point", "supplier", "day"),
    ("request", "supplier"),
    ("request",),
    ("point", "day"),
    ("point", "day", "day", "supplier"),
    ("supplier",),
    ("point", "day", "amount"),
    ("supplier", "day", "day"),
    ("point", "day", "day"),
    ("point", "day"),
    ("supplier", "day", "day", "day"),
    ("day", "day", "day"),
    ("day", "business days behind"),
    ("day", "day"),
    ("request",),
    ("point", "day", "day"),
    ("supplier", "day", "day"),
    ("point",),
    (),
)

LEAST = {
    "supplier": 1,
    "business days": 1,
    "business days behind": 0,
    "day": 0,
    "point": 1,
    "request": 1,
    "amount": 0,
}
GREATEST = {
    "supplier": 8,
    "business days": 30,
    "business days behind": 100,
    "day": 20000,
    "point": 16,
    "request": 64,
    "amount": 1000000000,
}


def argument_count(call):
    return len(ARGUMENTS[call])


def are_within_ranges(call, given):
    for index, kind in enumerate(ARGUMENTS[call]):
        if given[index] < LEAST[kind] or given[index] > GREATEST[kind]:
            return False
    return True
