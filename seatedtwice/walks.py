"""Plain walks: rows of steps, from a thing to the next one of a row or to the one before."""

from seatedtwice.errors import BadWalk, NoThing, OtherScene
from seatedtwice.names import form_names
from seatedtwice.scripts import Script
from seatedtwice.worlds import World
from seatedtwice.worldtexts import write_world

MOST_STEPS = 300
# For so many steps one script has room.
STEPS_IN_SCRIPT = 50
BACK = {"+": "-", "-": "+"}


class Walk:
    """A plain walk over a scene. It never changes."""

    def __init__(self, scene, text):
        words = read_steps(scene, text)
        self.scene = scene
        self.text = text
        self.words = words
        # A dict of True for its places, in the order in which it comes to them first, and its end.
        reached, end = places_and_end(words)
        self.reached = reached
        self.end = end

    def __add__(self, other):
        if not isinstance(other, Walk):
            return NotImplemented
        check_scenes(self, other)
        return walk_of(self.scene, self.words + other.words)

    def __invert__(self):
        return walk_of(self.scene, [back(word) for word in self.words[::-1]])

    def __eq__(self, other):
        if not isinstance(other, Walk) or not self.scene == other.scene:
            return False
        return self.end == other.end and self.reached == other.reached

    def __le__(self, other):
        if not isinstance(other, Walk):
            return NotImplemented
        return is_part(self, other)

    def __lt__(self, other):
        if not isinstance(other, Walk):
            return NotImplemented
        return is_part(self, other) and not is_part(other, self)

    def __ge__(self, other):
        if not isinstance(other, Walk):
            return NotImplemented
        return is_part(other, self)

    def __gt__(self, other):
        if not isinstance(other, Walk):
            return NotImplemented
        return is_part(other, self) and not is_part(self, other)

    def at(self, world, thing):
        """The thing at its end, if it begins at a thing of a world, or None."""
        if thing not in world:
            raise NoThing(thing)
        if not self.scene == world.scene:
            raise OtherScene()
        orders = {row: world[row] for row in self.scene.rows}
        spots = {row: spots_in(orders[row]) for row in self.scene.rows}
        for word in self.words:
            order = orders[word[1:]]
            spot = spots[word[1:]][thing] + (1 if word[0] == "+" else -1)
            if spot < 0 or spot == len(order):
                return None
            thing = order[spot]
        return thing

    def places(self):
        """A list of its places as texts, fewer words first, then in ascending order."""
        gap = " "
        told = sorted([f"{place.count(gap):06d}{place}" for place in self.reached])
        return [text[6:] for text in told]

    def final(self):
        """Its end as a text."""
        return self.end

    def script(self):
        """A script with one input and one output that gives what the walk gives."""
        told = step_script(self.scene, self.words[:STEPS_IN_SCRIPT])
        for first in range(STEPS_IN_SCRIPT, len(self.words), STEPS_IN_SCRIPT):
            told = step_script(self.scene, self.words[first:first + STEPS_IN_SCRIPT]).after(told)
        return told


def walk_parting(u, v):
    """None if the first walk is a part of the other one, otherwise a tuple (world, thing) that shows that it is not."""
    if is_part(u, v):
        return None
    names = dict(zip(u.reached, form_names(len(u.reached))))
    way_out = way_out_of(u.reached, v.words)
    rows = [[names[place] for place in row_of_places(row, u.reached, way_out)] for row in u.scene.rows]
    lots = [rows[0]] if u.scene.has_lots else []
    return World(u.scene, write_world(u.scene, rows, [[] for _ in u.scene.marks], lots)), names[""]


def read_steps(scene, text):
    """The words of the text of a walk."""
    if text == "":
        return []
    words = text.split(" ")
    for index, word in enumerate(words):
        if index == MOST_STEPS or word[:1] not in BACK or word[1:] not in scene.rows:
            raise BadWalk(index)
    return words


def walk_of(scene, words):
    """The walk of these steps, of which there may be more than the text of a walk can have."""
    walk = Walk(scene, "")
    walk.text = " ".join(words)
    walk.words = words
    reached, end = places_and_end(words)
    walk.reached = reached
    walk.end = end
    return walk


def check_scenes(walk, other):
    """Both must be over one scene."""
    if not walk.scene == other.scene:
        raise OtherScene()


def is_part(walk, other):
    """Whether a walk is a part of another one: it has all of its places, and the same end."""
    check_scenes(walk, other)
    return walk.end == other.end and all([place in walk.reached for place in other.reached])


def spots_in(order):
    """A dict from the things of a row to their places in it."""
    return {thing: spot for spot, thing in enumerate(order)}


def back(word):
    """The step that cancels a step."""
    return BACK[word[0]] + word[1:]


def step_from(place, word):
    """The place to which a step leads from a place."""
    before, _, last = place.rpartition(" ")
    if last == back(word):
        return before
    return f"{place} {word}".lstrip()


def places_and_end(words):
    """(a dict of True for the places of these steps, their end)."""
    path = [""]
    taken = []
    told = {"": True}
    for word in words:
        if taken and taken[-1] == back(word):
            taken.pop()
            path.pop()
        else:
            taken.append(word)
            path.append(f"{path[-1]} {word}".lstrip())
        told[path[-1]] = True
    return told, path[-1]


def step_script(scene, words):
    """The script with a line for each of these steps."""
    told = ["takes a"]
    for word in words:
        step = "next" if word[0] == "+" else "prev"
        told.append(f"a = {step} a {word[1:]}")
    return Script(scene, "\n".join([*told, "gives a"]))


def way_out_of(places, words):
    """(place, step): where these steps leave some places first; the place is None if they do not leave them."""
    place = ""
    for word in words:
        following = step_from(place, word)
        if following not in places:
            return place, word
        place = following
    return None, ""


def row_of_places(row, places, way_out):
    """The places in an order in which those that are a step of this row apart stand side by side.

    The way out leads to nothing: it is at an end of the row.
    """
    end, step = way_out
    first, last = [], []
    between = []
    for place in places:
        if step_from(place, f"-{row}") not in places:
            chain = chain_from(place, row, places)
            if step == f"+{row}" and chain[-1] == end:
                last = chain
            elif step == f"-{row}" and chain[0] == end:
                first = chain
            else:
                between.extend(chain)
    return first + between + last


def chain_from(place, row, places):
    """The places from one on, each one a step of the row behind the one before."""
    chain = []
    while place in places:
        chain.append(place)
        place = step_from(place, f"+{row}")
    return chain
