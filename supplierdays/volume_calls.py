"""The calls volume, bill, volumeOf and volumes."""

from supplierdays.house import MOST_BILLS, MOST_VOLUMES, Volume
from supplierdays.record import lacks_point, lacks_supplier, supplier_volume, supplier_volumes


def tell_volume(house, point, day, amount):
    if lacks_point(house, point):
        return [-5]
    if day > house.today:
        return [-8]
    if len(house.volumes) >= MOST_VOLUMES:
        return [-4]
    house.volumes.append(Volume(point, day, amount, house.today))
    return [0]


def bill(house, supplier, first, last):
    if lacks_supplier(house, supplier):
        return [-6]
    if last < first:
        return [-8]
    key = (supplier, first, last)
    if len(house.bills) >= MOST_BILLS and key not in house.bills:
        return [-4]
    billed_last = house.bills.get(key, 0)
    house.bills[key] = supplier_volume(house, supplier, first, last, house.today)
    return [0, house.bills[key] - billed_last]


def ask_volume_of(house, supplier, first, last, known_at):
    if lacks_supplier(house, supplier):
        return [-6]
    if last < first or known_at > house.today:
        return [-8]
    return [0, supplier_volume(house, supplier, first, last, known_at)]


def ask_volumes(house, first, last, known_at):
    if last < first or known_at > house.today:
        return [-8]
    totals = supplier_volumes(house, first, last, known_at)
    # Each point has just one supplier on each day, so the suppliers' volumes together are the sum over all points.
    return [0] + totals + [sum(totals)]
