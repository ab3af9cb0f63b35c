"""What is kept: which of some bare sayings stay true, whatever buttons are pressed."""

from seatedtwice.breaches import first_breach
from seatedtwice.errors import NotBare, OtherScene
from seatedtwice.shown import told


def kept_part(buttons, sayings):
    """A list of the indexes of the sayings in the greatest part that is kept."""
    check_bare(sayings)
    check_scenes(buttons, sayings)
    lost = {index: True for index, _, _ in losses(buttons, sayings)}
    return [index for index in range(len(sayings)) if index not in lost]


def left_out(buttons, sayings):
    """Why the other sayings are left out: a list of tuples (index, button, world, inputs)."""
    check_bare(sayings)
    check_scenes(buttons, sayings)
    return [(index, button, *told(buttons[0].scene, stand)) for index, button, stand in losses(buttons, sayings)]


def check_bare(sayings):
    """All sayings must be bare."""
    for index, saying in enumerate(sayings):
        if not saying.is_bare:
            raise NotBare(index)


def check_scenes(buttons, sayings):
    """All scripts and sayings must be over one scene."""
    for other in [*buttons, *sayings]:
        if not other.scene == buttons[0].scene:
            raise OtherScene()


def losses(buttons, sayings):
    """A list of tuples (index, button, stand): one saying after another that the others do not let a button keep."""
    found = []
    left = dict(enumerate(sayings))
    button = 0
    # How many buttons, one behind the other, keep what is left.
    many = 0
    while left and many < len(buttons):
        asked = list(left.values())
        stand = first_breach(buttons[button], asked, asked)
        if stand is None:
            many += 1
            button = (button + 1) % len(buttons)
        else:
            # A button that keeps all of them need not keep fewer: all buttons are asked again.
            many = 0
            lost = [index for index, saying in left.items() if not saying.is_true(stand.states[0])]
            found.extend([(index, button, stand) for index in lost])
            left = {index: saying for index, saying in left.items() if index not in lost}
    return found
