"""A plain reading of [13] to [15]: no code of the package, no short cuts, all small worlds and all inputs tried."""

import itertools

from tests import plain


def block_at(words, at):
    """(names, start, end): the bound names of the block at an index, and where its condition starts and ends."""
    start = words.index("(", at) + 1
    depth = 1
    end = start
    while depth:
        depth += {"(": 1, ")": -1}.get(words[end], 0)
        end += 1
    return words[at + 1:start - 1], start, end - 1


def is_true(world, held, words):
    """Whether a saying is true; Python's own `not`, `and`, `or` and brackets bind as those of the document."""
    code = []
    at = 0
    while at < len(words):
        word = words[at]
        if word in ("not", "and", "or", "(", ")"):
            code.append(word)
            at += 1
        elif word in ("all", "some"):
            names, start, end = block_at(words, at)
            told = [is_true(world, {**held, **dict(zip(names, chosen))}, words[start:end])
                    for chosen in itertools.product(things_of(world), repeat=len(names))]
            code.append(str(all(told) if word == "all" else any(told)))
            at = end + 1
        else:
            many = {"ahead": 4, "missing": 2}.get(words[at + 1], 3)
            code.append(str(part_is_true(world, held, words[at:at + many])))
            at += many
    return eval(" ".join(code))


def things_of(world):
    """All things of a world: each row has all of them."""
    return next(value for value in world.values() if isinstance(value, list))


def part_is_true(world, held, words):
    one = held.get(words[0])
    if words[1] == "missing":
        return one is None
    if words[1] == "has":
        return one in world[words[2]]
    other = held.get(words[2])
    if one is None or other is None:
        return False
    if words[1] == "is":
        return one == other
    if words[1] == "with":
        return world["lots"][one] == world["lots"][other]
    order = world[words[3]]
    return order.index(one) < order.index(other)


def bound_names(text):
    """How many bound names the blocks of a saying have, all counted."""
    words = text.split(" ")
    return sum(len(block_at(words, at)[0]) for at, word in enumerate(words) if word in ("all", "some"))


def is_bare(text):
    """Whether each register is a bound name of the block in which it stands."""
    words = text.split(" ")
    at = 0
    while at < len(words):
        if words[at] in ("all", "some"):
            names, start, end = block_at(words, at)
            if not set(holders(words[start:end])) <= set(names):
                return False
            at = end
        elif words[at] not in ("not", "and", "or", "(", ")"):
            return False
        at += 1
    return True


def holders(words):
    """The words that stand for things in a condition without blocks."""
    found = []
    at = 0
    while at < len(words):
        if words[at] in ("not", "and", "or", "(", ")"):
            at += 1
        else:
            found.append(words[at])
            if words[at + 1] not in ("has", "missing"):
                found.append(words[at + 2])
            at += {"ahead": 4, "missing": 2}.get(words[at + 1], 3)
    return found


# What the searches must find.

def bound(script, *sayings):
    """How many things can matter at most: the inputs and walks of a script and all bound names."""
    takes = len(script.split("\n")[0].split(" ")) - 1
    return takes + plain.walks(script) + sum(map(bound_names, sayings))


def breaches(scene, first, script, then, world, inputs):
    """Whether the first saying (None: none is asked for) is true before a run, and the other one false behind it."""
    names = script.split("\n")[0].split(" ")[1:]
    if first is not None and not is_true(world, dict(zip(names, inputs)), first.split(" ")):
        return False
    run = plain.Run(scene, script, world, inputs)
    return not is_true(run.world, run.held, then.split(" "))


def runs(scene, script, most):
    """(world, world behind) of all runs in worlds of at most so many things."""
    takes = len(script.split("\n")[0].split(" ")) - 1
    told = []
    for many in range(most + 1):
        for world in plain.all_worlds(scene, many):
            for inputs in plain.all_inputs(many, takes):
                told.append((world, plain.Run(scene, script, world, inputs).world))
    return told


def kept_part(scene, scripts, sayings):
    """The indexes of the greatest kept part: all parts are tried, and the kept ones are put together."""
    words = [saying.split(" ") for saying in sayings]
    told = set()
    for script in scripts:
        for world, behind in runs(scene, script, bound(script, *sayings)):
            told.add(tuple([(is_true(world, {}, each), is_true(behind, {}, each)) for each in words]))
    kept = set()
    for many in range(len(sayings) + 1):
        for part in itertools.combinations(range(len(sayings)), many):
            if all(all(truth[at][1] for at in part) for truth in told if all(truth[at][0] for at in part)):
                kept |= set(part)
    return sorted(kept)
