"""Stories: of each house of a run, the rooms that it came to, and when."""

from errandroom.hallhouses import HallHouse, MachineTown, first_slots
from errandroom.halls import run_town
from errandroom.waiters import told_asks


class StoryTown(MachineTown):
    def new_house(self, path, machine, handed, hour):
        return StoryHouse(self, path, machine, handed, hour)


class StoryHouse(HallHouse):
    def __init__(self, town, path, machine, handed, hour):
        HallHouse.__init__(self, town, path, machine, first_slots(machine, handed), hour)
        self.handed = tuple(handed)
        self.called_at = ()
        self.steps = []

    def come_in(self, hour):
        self.steps.append((hour, self.room, tuple(self.slots)))

    def call_off(self, hour):
        ahead = self.called
        HallHouse.call_off(self, hour)
        if self.called and not ahead:
            self.called_at = (hour,)


def story(machines, name, args, events):
    town = run_town(StoryTown(machines), name, args, events)
    return (tuple(sorted([story_of(house) for house in town.houses])), told_asks(town))


def story_of(house):
    return (house.path, house.name, house.handed, house.begun, house.called_at, tuple(house.steps), house.end)
