"""A keeper: a sheet with its right book, and the deeds done, taken back and done again."""

from onelook.deeds import deed_wave
from onelook.errors import NoDeed
from onelook.fresh import fresh_book
from onelook.waves import wave_by


# Behind so many deeds of the row as stand there is the state of that number; those behind are taken back.
class Keeper:
    def __init__(self, sheet):
        self.states = [(dict(sheet), fresh_book(sheet))]
        self.row = []
        self.many = 0

    def do(self, deed):
        state = self.states[self.many]
        state_now = deed_wave(state[0], state[1], deed)
        self.states = self.states[:self.many + 1] + [state_now[:2]]
        self.row = self.row[:self.many] + [deed]
        self.many += 1
        return state_now[2]

    def back(self):
        if self.many == 0:
            raise NoDeed("no deed to take back")
        return self.step_to(self.many - 1, self.row[self.many - 1])

    def again(self):
        if self.many == len(self.row):
            raise NoDeed("no deed to do again")
        return self.step_to(self.many + 1, self.row[self.many])

    def step_to(self, number, deed):
        state = self.states[self.many]
        state_now = self.states[number]
        self.many = number
        # By a shift the places mean others: nothing is reckoned on either way.
        return [] if deed[0] == "shift" else wave_by(state[0], state[1], state_now[0], state_now[1])

    def sheet_now(self):
        return dict(self.states[self.many][0])

    def book_now(self):
        return dict(self.states[self.many][1])

    def deeds(self):
        return self.row[:self.many]
