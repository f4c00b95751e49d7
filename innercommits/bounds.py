"""How large the functions of a library are, and which can come back to themselves."""

from innercommits.errors import Endless, TooMany

HEAVIEST = 400
# The statements whose bodies are executed only if a question is answered so.
GUARDING = ("maybe", "repeat")


def unguarded(body):
    """The statements in a body, nested ones too, that no question guards."""
    found = []
    for statement in body:
        found.append(statement)
        if statement.kind not in GUARDING:
            for inner in statement.inner_bodies():
                found.extend(unguarded(inner))
    return found


def guarded_bodies(body):
    """All bodies of `maybe` and `repeat` in a body."""
    found = []
    for statement in body:
        if statement.kind in GUARDING:
            found.append(statement.body)
        for inner in statement.inner_bodies():
            found.extend(guarded_bodies(inner))
    return found


def calls_in(body, bodies):
    """The functions of the library that a body calls unguarded, as often as it calls them."""
    every = unguarded(body)
    return [one.word for one in every if one.kind == "call" and one.word in bodies]


def check_calls(bodies):
    """Raises an error for a function that comes back to itself, and for a weight too great."""
    called = {name: calls_in(bodies[name], bodies) for name in bodies}
    for name in bodies:
        if _comes_back(name, called):
            raise Endless(name)
    weights = {}
    for name in bodies:
        _weigh(name, bodies, weights)
    for name in bodies:
        if weights[name] > HEAVIEST:
            raise TooMany("weight")
        for body in guarded_bodies(bodies[name]):
            if _weight(body, bodies, weights) > HEAVIEST:
                raise TooMany("weight")


def _comes_back(name, called):
    """Whether the function calls itself, directly or through others."""
    seen = {}
    waiting = list(called[name])
    while waiting:
        other = waiting.pop()
        if other == name:
            return True
        if other not in seen:
            seen[other] = True
            waiting.extend(called[other])
    return False


def _weigh(name, bodies, weights):
    """Puts into weights the weight of the function, and of those that it calls."""
    if name not in weights:
        for other in calls_in(bodies[name], bodies):
            _weigh(other, bodies, weights)
        weights[name] = _weight(bodies[name], bodies, weights)


def _weight(body, bodies, weights):
    """The weight of a body; weights has that of each function that it calls."""
    return len(unguarded(body)) + sum([weights[name] for name in calls_in(body, bodies)])
