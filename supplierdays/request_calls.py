"""The calls request, object, withdraw, requestIs, and day, which confirms requests."""

from supplierdays.days import business_after
from supplierdays.house import CONFIRMED, MOST_REQUESTS, OBJECTED_TO, WAITING, WITHDRAWN, Fact, Request
from supplierdays.record import lacks_point, lacks_working_supplier, stretch_end, supplier_on
from supplierdays.record import too_many_facts, waiting_requests


def is_point_waiting(house, point):
    for request in waiting_requests(house):
        if request.point == point:
            return True
    return False


def is_start_refused(house, start):
    earliest = business_after(house.holidays, house.today, house.notice)
    return start < earliest or start > house.today + 400


def is_request_without_room(house):
    return len(house.requests) >= MOST_REQUESTS or too_many_facts(house, 1, len(waiting_requests(house)))


def make_request(house, point, supplier, start):
    if lacks_point(house, point):
        return [-5]
    if lacks_working_supplier(house, supplier):
        return [-6]
    if is_start_refused(house, start):
        return [-8]
    if is_point_waiting(house, point):
        return [-10]
    old = supplier_on(house, point, start, house.today)
    if old == supplier:
        return [-9]
    if is_request_without_room(house):
        return [-4]
    deadline = business_after(house.holidays, house.today, house.objection_time)
    house.requests.append(Request(point, supplier, start, old, deadline))
    return [0, len(house.requests), old, deadline]


def lacks_waiting_request(house, number):
    return number > len(house.requests) or house.requests[number - 1].standing != WAITING


def object_to(house, number, supplier):
    if lacks_waiting_request(house, number):
        return [-7]
    if lacks_working_supplier(house, supplier):
        return [-6]
    request = house.requests[number - 1]
    if request.old != supplier:
        return [-11]
    request.standing = OBJECTED_TO
    return [0]


def withdraw(house, number):
    if lacks_waiting_request(house, number):
        return [-7]
    house.requests[number - 1].standing = WITHDRAWN
    return [0]


# Rows of (deadline, number): sorted, they lie as requests are to be confirmed.
def due_requests(house, day):
    due = []
    for index, request in enumerate(house.requests):
        if request.standing == WAITING and request.deadline < day:
            due.append((request.deadline, index + 1))
    return sorted(due)


def confirm(house, request):
    known_from = request.deadline + 1
    last = stretch_end(house, request.point, request.start, known_from)
    house.facts.append(Fact(request.point, request.start, last, request.supplier, known_from))
    request.standing = CONFIRMED


def go_to_day(house, day):
    if day <= house.today:
        return [-8]
    due = due_requests(house, day)
    for row in due:
        confirm(house, house.requests[row[1] - 1])
    house.today = day
    return [0, len(due)]


def ask_request(house, number):
    if number > len(house.requests):
        return [-7]
    request = house.requests[number - 1]
    return [0, request.point, request.supplier, request.start, request.old, request.deadline, request.standing]
