"""The hands: their memories behind a row of deeds, done one by one."""

from handsapart.houses import house_copied, need_hand, need_letter
from handsapart.machines import least_of
from handsapart.memory import all_behind, deed, memory_of_none, need_untorn, of_hands, room_known


class Hands:
    def __init__(self, house, machine):
        need_untorn(house, machine)
        # What the asker does to the house or the machine later is not to be seen here.
        self.house = house_copied(house)
        self.machine = least_of(machine)
        self.memories = [memory_of_none(self.house, self.machine)] * self.house[0]

    def do(self, letter):
        need_letter(self.house, letter)
        done = deed(self.house, self.machine, letter, of_hands(self.house, letter, self.memories))
        self.memories = all_behind(self.house, letter, self.memories, done[1])
        return done[0]

    def memory(self, hand):
        need_hand(self.house, hand)
        return self.memories[hand]

    def room(self):
        return room_known(self.memories)

    def is_good(self):
        return self.room() in self.machine[1]
