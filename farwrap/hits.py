"""Walks by equal steps around a circle of places, and their visits to the marked places of it.

The places are the integers from 0 to size - 1, those below `marks` are marked. What is asked of a walk
is asked of its laps in turn, which are steps of a walk around a smaller circle: a lap leads from where
it begins, one of the first `step` places, to where the next one does. This is Euclid's division.
"""

from math import gcd


class Walk:
    """Steps that cost something, each one the same but for two additions; none costs less than 0.

    A step from a marked place costs `marked` in addition, one past the end of the circle `around`.
    """

    def __init__(self, size, step, marks, each, marked, around):
        self.size = size
        self.step = step
        self.marks = marks
        self.each = each
        self.marked = marked
        self.around = around

    def mirrored(self):
        """Return the walk that goes the other way around, by the rest of the circle at each step.

        Its places are those of this one in reverse order. What is marked here is not marked there.
        """
        each = self.each + self.marked + self.around
        return Walk(self.size, self.size - self.step, self.size - self.marks, each, -self.marked, -self.around)

    def of_laps(self):
        """Return the walk whose steps are the laps of this one."""
        longest = -(-self.size // self.step)
        step = longest * self.step - self.size
        # A lap is one step shorter where the walk of laps goes past its end.
        each = longest * self.each + self.marks // self.step * self.marked + self.around
        return Walk(self.step, step, self.marks % self.step, each, self.marked, -self.each)

    def marked_steps(self, begin):
        """Return how many steps of the lap that begins here are from a marked place."""
        return max(0, -((begin - self.marks) // self.step))

    def cost(self, begin, steps):
        """Return what so many steps of the lap that begins here cost, all but its last one at most."""
        return steps * self.each + min(steps, self.marked_steps(begin)) * self.marked

    def steps_for(self, begin, budget):
        """Return how many steps of the lap that begins here, all but its last one at most, cost no more."""
        most = -((begin - self.size) // self.step) - 1
        steps = min(most, self.marked_steps(begin))
        if steps * (self.each + self.marked) > budget:
            return budget // (self.each + self.marked)
        rest = budget - steps * (self.each + self.marked)
        if (most - steps) * self.each > rest:
            return steps + rest // self.each
        return most


def _steps_to_visit(size, step, marks, place, j):
    """Return how many steps from a place lead to visit number j of a marked place; there is one."""
    walk = Walk(size, step, marks, 0, 1, 0)
    budget = j
    outer = []
    while walk.step > 0:
        if 2 * walk.step > walk.size:
            place = walk.size - 1 - place
            walk = walk.mirrored()
        # The walk is taken as one that began where the lap of its first place does.
        ahead, place = divmod(place, walk.step)
        budget += walk.cost(place, ahead)
        outer.append((walk, place, ahead))
        walk = walk.of_laps()
    steps, budget = divmod(budget, walk.each + (walk.marked if place < walk.marks else 0))
    for walk, place, ahead in reversed(outer):
        distance = steps * walk.size - place
        steps = -(-distance // walk.step)
        begin = steps * walk.step - distance
        more = walk.steps_for(begin, budget)
        budget -= walk.cost(begin, more)
        steps += more - ahead
    return steps


def has_hit(line, size, low, high):
    """Return whether a * x + b is from low to high for an x, but for a multiple of size."""
    a, b = line
    shared = gcd(a, size)
    return (high - b) // shared > (low - 1 - b) // shared


def hit_at(line, size, first, low, high, j):
    """Return number j of the x from first on for which a * x + b is from low to high, but for a multiple of size.

    From low to high there are at most `size` integers. There is such an x.
    """
    a, b = line
    return first + _steps_to_visit(size, a % size, high - low + 1, (a * first + b - low) % size, j)


def first_hit(line, size, low, high):
    """Return the least x from 0 on for which a * x + b is from low to high, but for a multiple of size, or None.

    From low to high there are at most `size` integers; there may be none.
    """
    return hit_at(line, size, 0, low, high, 0) if has_hit(line, size, low, high) else None
