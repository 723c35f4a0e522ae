"""The calls vacate, correct and fail, which put facts on record."""

from supplierdays.days import LAST_DAY
from supplierdays.house import DROPPED, Fact
from supplierdays.record import lacks_point, lacks_working_supplier, span_starts, stretch_end, supplier_on
from supplierdays.record import too_many_facts, waiting_requests


def vacate(house, point, day):
    today = house.today
    if lacks_point(house, point):
        return [-5]
    if day <= today or day > today + 400:
        return [-8]
    if supplier_on(house, point, day, today) == house.basic:
        return [-9]
    if too_many_facts(house, 1, len(waiting_requests(house))):
        return [-4]
    last = stretch_end(house, point, day, today)
    house.facts.append(Fact(point, day, last, house.basic, today))
    return [0, last]


def correct(house, point, first, last, supplier):
    today = house.today
    if lacks_point(house, point):
        return [-5]
    if lacks_working_supplier(house, supplier):
        return [-6]
    if last < first or first < today - 400 or last > today + 400:
        return [-8]
    if too_many_facts(house, 1, len(waiting_requests(house))):
        return [-4]
    house.facts.append(Fact(point, first, last, supplier, today))
    return [0]


# The facts that give the basic supplier what the failing one would supply at the point after today.
def replacing_facts(house, point, supplier):
    today = house.today
    new_facts = []
    starts = span_starts(house, point, today)
    for index, start in enumerate(starts):
        last = LAST_DAY
        if index + 1 < len(starts):
            last = starts[index + 1][0] - 1
        if start[1] == supplier and last > today:
            new_facts.append(Fact(point, max(start[0], today + 1), last, house.basic, today))
    return new_facts


def fail(house, supplier):
    if lacks_working_supplier(house, supplier):
        return [-6]
    if supplier == house.basic:
        return [-9]
    waiting = waiting_requests(house)
    dropped = [request for request in waiting if request.supplier == supplier]
    new_facts = []
    for point in range(1, house.points + 1):
        new_facts.extend(replacing_facts(house, point, supplier))
    if too_many_facts(house, len(new_facts), len(waiting) - len(dropped)):
        return [-4]
    house.failed[supplier] = True
    for request in dropped:
        request.standing = DROPPED
    house.facts.extend(new_facts)
    return [0, len(new_facts)]
