"""The refusals. Each has a class of its own under RoomError, so that none is taken for another one."""


class RoomError(ValueError):
    pass


class OutOfRoom(RoomError):
    def __init__(self, at):
        self.at = at


class Fallen(RoomError):
    def __init__(self, count):
        self.count = count


class NoRow(RoomError):
    pass


class NoPaper(RoomError):
    pass


class Unfit(RoomError):
    pass


class Down(RoomError):
    pass


class OnTrial(RoomError):
    pass


class Faulty(RoomError):
    def __init__(self, fault):
        self.fault = fault


class NoTrial(RoomError):
    pass


class NoWayBack(RoomError):
    pass


class NoLine(RoomError):
    pass
