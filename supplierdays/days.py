"""Business days. Days are whole numbers; holidays are the keys of a dict."""

LAST_DAY = 20000


def is_free(holidays, day):
    return day % 7 >= 5 or day in holidays


# The n-th business day behind the day; it may lie beyond the last day.
def business_after(holidays, day, n):
    found = day
    left = n
    while left > 0:
        found += 1
        if not is_free(holidays, found):
            left -= 1
    return found


# How many of the days from 0 to this one are business days if there are no holidays.
def weekdays_until(day):
    days = day + 1
    return days // 7 * 5 + min(days % 7, 5)


def business_between(holidays, after, until):
    weekdays = weekdays_until(until) - weekdays_until(after)
    # A holiday that is free by its number isn't among the weekdays, so it takes none away.
    taken = [day for day in holidays if after < day and day <= until and day % 7 < 5]
    return weekdays - len(taken)
