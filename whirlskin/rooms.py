"""Rooms: how much farther one FIELD than another can have come on in VANES of one WISH."""

from heapq import heappop, heappush


def rooms_from(skin, steps, starts):
    """The list with, for each FIELD, the least of its rooms from the FIELDS starts, of what is a SKIN.

    The room from one FIELD to another is by how many quarters at most the latter can have come on more, in
    VANES of the WISH of those that have these STEPS. Over a CROSSING it is what its STEP lacks to 1, so
    over many it is the shortest way.
    """
    rooms = {}
    queue = [(0, field) for field in starts]
    while queue:
        room, field = heappop(queue)
        if field not in rooms:
            rooms[field] = room
            for side in range(4):
                heappush(queue, (room + 1 - steps[field][side], skin[field][side][0]))
    return [rooms[field] for field in range(len(skin))]
