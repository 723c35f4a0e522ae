"""Business days. Days are whole numbers; holidays are the keys of a dict."""

LAST_DAY = 20000


def is_free(holidays, day):
    return day % 7 >= 5 or day in holidays


# The n-th business day behind the day; it may lie beyond the last day.
def business_after(holidays, day, n):
    found = day
    left = n
    while left > 0:
        found += 1
        if not is_free(holidays, found):
            left -= 1
    return found
