"""What can be read off a house's record, as known at a day; nothing here changes it."""

from supplierdays.days import LAST_DAY
from supplierdays.house import MOST_FACTS, WAITING


def lacks_point(house, point):
    return point > house.points


def lacks_supplier(house, supplier):
    return supplier > house.suppliers


def lacks_working_supplier(house, supplier):
    return lacks_supplier(house, supplier) or supplier in house.failed


def waiting_requests(house):
    return [request for request in house.requests if request.standing == WAITING]


# A waiting request keeps a place among the facts, so that there is room for its fact whenever it is confirmed.
def too_many_facts(house, new_facts, waiting):
    return len(house.facts) + new_facts + waiting > MOST_FACTS


def facts_known(house, point, known_at):
    return [fact for fact in house.facts if fact.point == point and fact.known_from <= known_at]


# The facts are those of one point, in the order in which they were put on record.
def supplier_by(facts, basic, day):
    supplier = basic
    for fact in facts:
        if fact.first <= day and day <= fact.last:
            supplier = fact.supplier
    return supplier


def supplier_on(house, point, day, known_at):
    return supplier_by(facts_known(house, point, known_at), house.basic, day)


# The only days on which the supplier can be another one than the day before, and day 0.
def days_of_change(facts):
    days = {0: True}
    for fact in facts:
        days[fact.first] = True
        if fact.last < LAST_DAY:
            days[fact.last + 1] = True
    return sorted(days)


# The first days of the point's spans, in order, each with its supplier.
def span_starts(house, point, known_at):
    facts = facts_known(house, point, known_at)
    starts = []
    # No supplier has the number 0, so day 0 is always the first day of a span.
    before = 0
    for day in days_of_change(facts):
        supplier = supplier_by(facts, house.basic, day)
        if supplier != before:
            starts.append((day, supplier))
        before = supplier
    return starts


def stretch_end(house, point, day, known_at):
    for start in span_starts(house, point, known_at):
        if start[0] > day:
            return start[0] - 1
    return LAST_DAY


# The longest stretches of days on which another supplier is known at one day than at the other: rows of (first, last).
def stretches_of_difference(house, point, known_at, other_known_at):
    facts = facts_known(house, point, known_at)
    others = facts_known(house, point, other_known_at)
    stretches = []
    # The first day of the stretch that goes on; -1, which is no day, while there is none.
    first = -1
    for day in days_of_change(facts + others):
        is_other = supplier_by(facts, house.basic, day) != supplier_by(others, house.basic, day)
        if is_other and first < 0:
            first = day
        if not is_other and first >= 0:
            stretches.append((first, day - 1))
            first = -1
    if first >= 0:
        stretches.append((first, LAST_DAY))
    return stretches


# The amounts told last for each (point, day).
def amounts_known(house, known_at):
    amounts = {}
    for volume in house.volumes:
        if volume.told_on <= known_at:
            amounts[(volume.point, volume.day)] = volume.amount
    return amounts


# Each supplier's volume, in order.
def supplier_volumes(house, first, last, known_at):
    amounts = amounts_known(house, known_at)
    totals = [0] * house.suppliers
    for key in amounts:
        day = key[1]
        if first <= day and day <= last:
            totals[supplier_on(house, key[0], day, known_at) - 1] += amounts[key]
    return totals


def supplier_volume(house, supplier, first, last, known_at):
    return supplier_volumes(house, first, last, known_at)[supplier - 1]
