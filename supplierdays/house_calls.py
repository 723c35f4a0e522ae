"""The calls open, holiday, point and state."""

from supplierdays.house import MOST_HOLIDAYS, MOST_POINTS
from supplierdays.record import waiting_requests


def set_up(house, basic, suppliers, objection_time, notice):
    if house.opened:
        return [-3]
    if basic > suppliers or notice <= objection_time:
        return [-12]
    house.opened = True
    house.basic = basic
    house.suppliers = suppliers
    house.objection_time = objection_time
    house.notice = notice
    return [0]


def tell_holiday(house, day):
    if day <= house.today:
        return [-8]
    if len(house.holidays) >= MOST_HOLIDAYS and day not in house.holidays:
        return [-4]
    house.holidays[day] = True
    return [0]


def add_point(house):
    if house.points >= MOST_POINTS:
        return [-4]
    house.points += 1
    return [0, house.points]


def ask_state(house):
    answer = [0, house.today, house.points, len(house.requests), len(waiting_requests(house))]
    answer.extend([len(house.facts), len(house.volumes), len(house.holidays)])
    for supplier in range(1, house.suppliers + 1):
        answer.append(1 if supplier in house.failed else 0)
    return answer
