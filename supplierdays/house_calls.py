"""The calls open, holiday and point."""

from supplierdays.house import MOST_HOLIDAYS, MOST_POINTS


def set_up(house, basic, suppliers, objection_time, notice):
    if house.opened:
        return [-3]
    if basic > suppliers or notice <= objection_time:
        return [-12]
    house.opened = True
    house.basic = basic
    house.suppliers = suppliers
    house.objection_time = objection_time
    house.notice = notice
    return [0]


def tell_holiday(house, day):
    if day <= house.today:
        return [-8]
    if len(house.holidays) >= MOST_HOLIDAYS and day not in house.holidays:
        return [-4]
    house.holidays[day] = True
    return [0]


def add_point(house):
    if house.points >= MOST_POINTS:
        return [-4]
    house.points += 1
    return [0, house.points]
