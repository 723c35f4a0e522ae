"""The desk: answers a list of calls, asked one after the other of a new house."""

from supplierdays.fact_calls import correct, fail, vacate
from supplierdays.house import House
from supplierdays.house_calls import add_point, set_up, tell_holiday
from supplierdays.ranges import are_within_ranges, argument_count
from supplierdays.request_calls import go_to_day, make_request, object_to, withdraw
from supplierdays.volume_calls import bill, tell_volume


def carry_out(house, call, given):
    if call == 0:
        return set_up(house, given[0], given[1], given[2], given[3])
    if call == 1:
        return tell_holiday(house, given[0])
    if call == 2:
        return add_point(house)
    if call == 3:
        return go_to_day(house, given[0])
    if call == 4:
        return make_request(house, given[0], given[1], given[2])
    if call == 5:
        return object_to(house, given[0], given[1])
    if call == 6:
        return withdraw(house, given[0])
    if call == 7:
        return vacate(house, given[0], given[1])
    if call == 8:
        return correct(house, given[0], given[1], given[2], given[3])
    if call == 9:
        return fail(house, given[0])
    if call == 10:
        return tell_volume(house, given[0], given[1], given[2])
    return bill(house, given[0], given[1], given[2])


def answer_call(house, call, given):
    if not are_within_ranges(call, given):
        return [-1]
    if call != 0 and not house.opened:
        return [-2]
    return carry_out(house, call, given)


def answers(calls):
    house = House()
    answered = []
    place = 0
    while place < len(calls):
        call = calls[place]
        behind = place + 1 + argument_count(call)
        answer = answer_call(house, call, calls[place + 1:behind])
        answered.append(len(answer))
        answered.extend(answer)
        place = behind
    return answered
