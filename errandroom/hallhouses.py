"""Houses of machines: each goes from room to room until it wants something or ends."""

from errandroom.machines import machine_of
from errandroom.waiters import Town, Waiter
from errandroom.worths import slot_worth


class MachineTown(Town):
    def __init__(self, machines):
        Town.__init__(self)
        self.machines = machines

    def begin(self, path, name, handed, hour):
        house = self.new_house(path, machine_of(self.machines, name), handed, hour)
        self.houses.append(house)
        house.work(hour)
        return house

    def new_house(self, path, machine, handed, hour):
        return HallHouse(self, path, machine, first_slots(machine, handed), hour)


def first_slots(machine, handed):
    return list(handed) + [0] * (machine[2] - len(handed))


class HallHouse(Waiter):
    def __init__(self, town, path, machine, slots, hour):
        Waiter.__init__(self, town, path, machine[0], hour)
        self.rooms = machine[3]
        self.room = 0
        self.slots = slots

    def is_shut(self):
        return self.rooms[self.room][3] == "shut"

    def worth_of(self, one):
        return slot_worth(one, self.slots)

    def take(self, pairs):
        for slot, number in pairs:
            self.slots[slot] = number
        self.room = self.rooms[self.room][1][3]

    # Of the rooms that were come to a hall keeps nothing; houses of stories do.
    def come_in(self, hour):
        pass

    # Goes through rooms until the house waits or has ended.
    def work(self, hour):
        while self.end == () and self.want is None:
            self.come_in(hour)
            room = self.rooms[self.room]
            for row in room[0]:
                do_row(self, row, hour)
            do_door(self, room[1], hour)

    def fall(self, number, hour):
        lead = self.rooms[self.room][2]
        if lead is None:
            self.close("bad", number, hour)
            return
        if lead[0] is not None:
            self.slots[lead[0]] = number
        self.room = lead[1]

    def go_out(self, hour):
        lead = self.rooms[self.room][3]
        if lead is None:
            self.close("off", 0, hour)
        else:
            self.room = lead


def do_row(house, row, hour):
    if row[0] == "put":
        house.slots[row[1]] = house.worth_of(row[2])
    elif row[0] == "tell":
        house.note(hour, "tell", house.worth_of(row[1]))
    else:
        house.note(hour, row[1], row[2])


def do_door(house, door, hour):
    word = door[0]
    if word == "go":
        house.room = door[1]
    elif word == "fork":
        house.room = door[2] if house.worth_of(door[1]) != 0 else door[3]
    elif word == "round":
        if house.begins_round(hour):
            house.room = door[1]
    elif word == "give":
        house.close("good", house.worth_of(door[1]), hour)
    elif word == "fail":
        house.fall(house.worth_of(door[1]), hour)
    elif house.goes_out():
        # Called off, a house neither begins a want nor goes on with a fault here.
        house.go_out(hour)
    elif word == "out":
        house.fall(house.slots[door[1]], hour)
    else:
        house.begin_want(door[1], door[2], hour)
