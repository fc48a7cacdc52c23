"""The state of the machine, which is kept between the calls."""


class State:
    def __init__(self, desk):
        self.restart(desk)

    def restart(self, desk):
        self.desk = desk
        self.levers = 0
        self.accumulator = 0
        self.position = 0
        self.counter = 0
        self.spent = 0

    def take_run(self, run):
        total = self.accumulator + run.multiplier * self.levers
        self.accumulator = total % self.desk.capacity()
        self.position = run.position
        self.counter += run.multiplier
        self.spent += run.cost
