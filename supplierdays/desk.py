"""The desk: answers a list of calls, asked one after the other of a new house."""

from supplierdays.day_calls import ask_business_after, ask_business_between
from supplierdays.fact_calls import correct, fail, vacate
from supplierdays.house import House
from supplierdays.house_calls import add_point, ask_state, set_up, tell_holiday
from supplierdays.ranges import are_within_ranges, argument_count
from supplierdays.request_calls import ask_request, go_to_day, make_request, object_to, withdraw
from supplierdays.supply_calls import ask_differs, ask_facts, ask_history, ask_supplied, ask_who
from supplierdays.volume_calls import ask_volume_of, ask_volumes, bill, tell_volume

LAST_CHANGING_CALL = 11


def change(house, call, given):
    if call == 0:
        return set_up(house, given[0], given[1], given[2], given[3])
    if call == 1:
        return tell_holiday(house, given[0])
    if call == 2:
        return add_point(house)
    if call == 3:
        return go_to_day(house, given[0])
    if call == 4:
        return make_request(house, given[0], given[1], given[2])
    if call == 5:
        return object_to(house, given[0], given[1])
    if call == 6:
        return withdraw(house, given[0])
    if call == 7:
        return vacate(house, given[0], given[1])
    if call == 8:
        return correct(house, given[0], given[1], given[2], given[3])
    if call == 9:
        return fail(house, given[0])
    if call == 10:
        return tell_volume(house, given[0], given[1], given[2])
    return bill(house, given[0], given[1], given[2])


def ask(house, call, given):
    if call == 12:
        return ask_who(house, given[0], given[1], given[2])
    if call == 13:
        return ask_history(house, given[0], given[1])
    if call == 14:
        return ask_volume_of(house, given[0], given[1], given[2], given[3])
    if call == 15:
        return ask_volumes(house, given[0], given[1], given[2])
    if call == 16:
        return ask_business_after(house, given[0], given[1])
    if call == 17:
        return ask_business_between(house, given[0], given[1])
    if call == 18:
        return ask_request(house, given[0])
    if call == 19:
        return ask_differs(house, given[0], given[1], given[2])
    if call == 20:
        return ask_supplied(house, given[0], given[1], given[2])
    if call == 21:
        return ask_facts(house, given[0])
    return ask_state(house)


def answer_call(house, call, given):
    if not are_within_ranges(call, given):
        return [-1]
    if call != 0 and not house.opened:
        return [-2]
    if call <= LAST_CHANGING_CALL:
        return change(house, call, given)
    return ask(house, call, given)


def answers(calls):
    house = House()
    answered = []
    place = 0
    while place < len(calls):
        call = calls[place]
        behind = place + 1 + argument_count(call)
        answer = answer_call(house, call, calls[place + 1:behind])
        answered.append(len(answer))
        answered.extend(answer)
        place = behind
    return answered
