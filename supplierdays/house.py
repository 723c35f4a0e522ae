"""What a house keeps."""

WAITING = 0
CONFIRMED = 1
OBJECTED_TO = 2
WITHDRAWN = 3
DROPPED = 4

MOST_HOLIDAYS = 32
MOST_POINTS = 16
MOST_REQUESTS = 64
MOST_FACTS = 256
MOST_VOLUMES = 256
MOST_BILLS = 64


class Request:
    def __init__(self, point, supplier, start, old, deadline):
        self.point = point
        self.supplier = supplier
        self.start = start
        self.old = old
        self.deadline = deadline
        self.standing = WAITING


class Fact:
    def __init__(self, point, first, last, supplier, known_from):
        self.point = point
        self.first = first
        self.last = last
        self.supplier = supplier
        self.known_from = known_from


class Volume:
    def __init__(self, point, day, amount, told_on):
        self.point = point
        self.day = day
        self.amount = amount
        self.told_on = told_on


# Suppliers and points are numbered without a gap, so how many there are is all that is kept of them.
# Failed suppliers and holidays are the keys of dicts; a bill's key is (supplier, first, last).
class House:
    def __init__(self):
        self.opened = False
        self.basic = 0
        self.suppliers = 0
        self.objection_time = 0
        self.notice = 0
        self.today = 0
        self.failed = {}
        self.holidays = {}
        self.points = 0
        self.requests = []
        self.facts = []
        self.volumes = []
        self.bills = {}
