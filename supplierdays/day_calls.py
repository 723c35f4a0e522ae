"""The calls businessAfter and businessBetween."""

from supplierdays.days import business_after, business_between


def ask_business_after(house, day, n):
    return [0, business_after(house.holidays, day, n)]


def ask_business_between(house, after, until):
    if until < after:
        return [-8]
    return [0, business_between(house.holidays, after, until)]
