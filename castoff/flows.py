"""Strands led along a line of points with the greatest gain, and heights that show that none gain more.

A strand goes from the first point to the last. Each step, from a point to the next one, is free to as many
strands as will; a jump (start, end, gain) leads over some steps and gains something, but for one strand alone.
Jumps never lead backwards, and no gain is below 0.
"""


def walkers_at(step, jumps, taken, strands):
    over = [jump for jump, used in zip(jumps, taken) if used and jump[0] <= step < jump[1]]
    return strands - len(over)


def moves_by_step(points, jumps, taken, strands):
    moves = []
    for step in range(points - 1):
        moves.append((step, step + 1, 0, None))
        if walkers_at(step, jumps, taken, strands) > 0:
            moves.append((step + 1, step, 0, None))
    return moves


def move_by_jump(jump, used, number):
    # One more strand may go back over what another one took: that one then goes on from there, without the gain.
    if used:
        return (jump[1], jump[0], 0 - jump[2], number)
    return (jump[0], jump[1], jump[2], number)


class Climb:
    def __init__(self, points):
        # Every point is reached step by step for nothing, so that no height is below 0.
        self.heights = [0 for point in range(points)]
        self.ways = [(point - 1, None) for point in range(points)]

    def rises_by(self, moves):
        rises = False
        for start, end, gain, number in moves:
            if self.heights[start] + gain > self.heights[end]:
                self.heights[end] = self.heights[start] + gain
                self.ways[end] = (start, number)
                rises = True
        return rises

    def jumps_used(self):
        numbers = []
        point = len(self.ways) - 1
        while point > 0:
            numbers.append(self.ways[point][1])
            point = self.ways[point][0]
        return [number for number in numbers if number is not None]


def climb_of(points, jumps, taken, strands):
    moves = moves_by_step(points, jumps, taken, strands)
    moves += [move_by_jump(jump, taken[number], number) for number, jump in enumerate(jumps)]
    climb = Climb(points)
    while climb.rises_by(moves):
        pass
    return climb


def flow_of(points, jumps, most):
    # A jump over no step is in nobody's way.
    taken = [start == end for start, end, gain in jumps]
    strands = 0
    climb = climb_of(points, jumps, taken, strands)
    # Where one more strand gains nothing, no height is above 0, whatever number of strands is left.
    while strands < most and climb.heights[-1] > 0:
        for number in climb.jumps_used():
            taken[number] = not taken[number]
        strands += 1
        climb = climb_of(points, jumps, taken, strands)
    return (taken, climb.heights)
