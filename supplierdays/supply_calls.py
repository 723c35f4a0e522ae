"""The calls who, history, differs, supplied and facts: who supplies whom, as known at a day, and what says so."""

from supplierdays.record import lacks_point, lacks_supplier, span_starts, stretches_of_difference, supplier_on


def accepted_with_rows(rows):
    answer = [0, len(rows)]
    for row in rows:
        answer.extend(row)
    return answer


def ask_who(house, point, day, known_at):
    if lacks_point(house, point):
        return [-5]
    if known_at > house.today:
        return [-8]
    return [0, supplier_on(house, point, day, known_at)]


def ask_history(house, point, known_at):
    if lacks_point(house, point):
        return [-5]
    if known_at > house.today:
        return [-8]
    return accepted_with_rows(span_starts(house, point, known_at))


def ask_differs(house, point, known_at, other_known_at):
    if lacks_point(house, point):
        return [-5]
    if known_at > house.today or other_known_at > house.today:
        return [-8]
    return accepted_with_rows(stretches_of_difference(house, point, known_at, other_known_at))


def ask_supplied(house, supplier, day, known_at):
    if lacks_supplier(house, supplier):
        return [-6]
    if known_at > house.today:
        return [-8]
    points = []
    for point in range(1, house.points + 1):
        if supplier_on(house, point, day, known_at) == supplier:
            points.append(point)
    return [0, len(points)] + points


def ask_facts(house, point):
    if lacks_point(house, point):
        return [-5]
    told = [fact for fact in house.facts if fact.point == point]
    return accepted_with_rows([(fact.first, fact.last, fact.supplier, fact.known_from) for fact in told])
