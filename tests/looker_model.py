"""Points 33, 34 and 36 word by word, and changes of certificates by chance."""

from innercommits.plays import Play
from innercommits.texts import Library
from tests.table_model import TableModel, entries


def is_set(thing, looked):
    return (type(thing) is tuple and all(type(word) is str and word in looked for word in thing)
            and list(thing) == sorted(set(thing)))


def is_case(thing, looked):
    if type(thing) is not tuple or len(thing) != 3 or type(thing[0]) is not str:
        return False
    state, outer, held = thing
    return (state in ("none", "open", "doomed") and is_set(outer, looked) and is_set(held, looked)
            and not set(outer) & set(held) and (state != "none" or held == ()))


def is_face(thing, case, ends, looked):
    if type(thing) is not tuple or len(thing) != 5 or type(thing[0]) is not str or type(thing[1]) is not bool:
        return False
    end, doomed, held, kept, pending = thing
    state, outer, before = case
    if end not in ends or not all(is_set(some, looked) for some in (held, kept, pending)):
        return False
    return (set(before) <= set(held) and not set(held) & set(outer) and not set(kept) & set(pending)
            and set(pending) <= set(held) and not (doomed and pending)
            and not (state == "none" and (doomed or held))
            and not (state == "doomed" and (not doomed or held != before)))


def table_of(lib, looked, thing):
    """The rows that thing tells, None if it tells none."""
    ends = ["", "?", *lib.errors()]
    if type(thing) is not tuple:
        return None
    table = {}
    for row in thing:
        if type(row) is not tuple or len(row) != 2 or type(row[0]) is not tuple or len(row[0]) != 2:
            return None
        (name, case), faces = row
        if type(name) is not str or name not in lib.functions() or not is_case(case, looked) or row[0] in table:
            return None
        if type(faces) is not tuple:
            return None
        table[row[0]] = {}
        for pair in faces:
            if type(pair) is not tuple or len(pair) != 2 or type(pair[1]) is not int or pair[1] < 0:
                return None
            if not is_face(pair[0], case, ends, looked) or pair[0] in table[row[0]]:
                return None
            table[row[0]][pair[0]] = pair[1]
    return table


def closed(text, thing, names, records, strict, silent):
    """The table and its model if thing is a closed table with these rows, otherwise None."""
    table = table_of(Library(text), records, thing)
    if table is None:
        return None
    model = TableModel(text, records, strict, silent, table=table)
    good = model.is_closed()
    if not good or any((name, case) not in table for name in names for case in entries(records, silent)):
        return None
    return model


def played(lib, moves, strict, records=None):
    if type(moves) is not tuple:
        return None
    try:
        return Play.of(lib, moves, strict=strict, records=records)
    except ValueError:
        return None


def is_silent(play):
    return len(play.call_names()) == 1 and not any(owner is None for owner, _, _ in play.writes())


def verdict(text, name, rule, thing, strict, silent):
    lib = Library(text)
    if type(thing) is not tuple or len(thing) != 2:
        return False
    if thing[0] == "holds":
        model = closed(text, thing[1], [name], lib.records(), strict, silent)
        if model is None:
            return False
        for case in entries(lib.records(), silent):
            for _, doomed, _, kept, pending in model.table[(name, case)]:
                if not rule(kept) or not (doomed or rule(kept + pending)):
                    return False
        return True
    play = played(lib, thing[1], strict) if thing[0] == "breaks" else None
    if play is None or not play.is_over or (silent and not is_silent(play)):
        return False
    return any(not rule(play.kept_by(number)) for number, other in enumerate(play.call_names()) if other == name)


def waiting(text, name, thing, strict):
    lib = Library(text)
    if type(thing) is not tuple or len(thing) != 2 or type(thing[0]) is not tuple:
        return False
    told = []
    for pair in thing[0]:
        if type(pair) is not tuple or len(pair) != 2 or type(pair[0]) is not str:
            return False
        play = played(lib, pair[1], strict)
        if play is None or not is_silent(play) or play.call_names() != [name] or (0, pair[0]) not in list(play.waits()):
            return False
        told.append(pair[0])
    if told != sorted(set(told)):
        return False
    model = closed(text, thing[1], [name], lib.records(), strict, True)
    return model is not None and model.waited <= set(told)


def ended(lib, moves, strict, records, silent):
    """What the only call of a play is, that has ended with the last move; None for others."""
    play = played(lib, moves, strict, records)
    if play is None or len(play.call_names()) != 1 or not play.is_ended(0) or (silent and not is_silent(play)):
        return None
    before = played(lib, moves[:-1], strict, records)
    if before.call_names() and before.is_ended(0):
        return None
    return ((play.call_names()[0], play.case_of(0)), play.face_of(0))


def likeness(texts, thing, stricts, silent):
    libs = [Library(text) for text in texts]
    records = sorted(set(libs[0].records()) | set(libs[1].records()))
    names = libs[0].functions()
    if type(thing) is not tuple or len(thing) != 4:
        return False
    if thing[0] == "parted":
        _, side, moves, rows = thing
        if type(side) is not int or side not in (0, 1):
            return False
        told = ended(libs[side], moves, stricts[side], records, silent)
        model = closed(texts[1 - side], rows, [], records, stricts[1 - side], silent)
        return (told is not None and model is not None and told[0] in model.table
                and told[1] not in model.table[told[0]])
    if thing[0] != "alike":
        return False
    models = [closed(texts[side], thing[1 + side], names, records, stricts[side], silent) for side in (0, 1)]
    if None in models or type(thing[3]) is not tuple:
        return False
    faces = [{((name, case), face) for name in names for case in entries(records, silent)
              for face in model.table[(name, case)]} for model in models]
    told = set()
    for way in thing[3]:
        if type(way) is not tuple or len(way) != 4:
            return False
        for side in (0, 1):
            what = ended(libs[side], way[2 + side], stricts[side], records, silent)
            if what is None or repr(what) != repr((way[0], way[1])):
                return False
        told.add((way[0], way[1]))
    return faces[0] == faces[1] == told


def paths(thing, start=()):
    """All places in nested tuples and lists."""
    yield start
    if type(thing) in (tuple, list):
        for at, part in enumerate(thing):
            yield from paths(part, start + (at,))


def at_path(thing, path):
    for at in path:
        thing = thing[at]
    return thing


def replaced(thing, path, part):
    """The thing with another part there."""
    if not path:
        return part
    at = path[0]
    return type(thing)([*thing[:at], replaced(thing[at], path[1:], part), *thing[at + 1:]])


ODD = (None, True, False, 0, 1, -1, 2, 10 ** 29, "", "a", "none", "doomed", "yes", (), [], ("a",), ["a"], (0,), ((),),
       "a" * 3000, ("a", "b"), "?", "refused", ("",) * 3000)


def other_part(chance, part, pool):
    """Another value in the place of a part."""
    kind = chance.randrange(4)
    if type(part) is tuple and part and kind < 3:
        some, at = list(part), chance.randrange(len(part))
        if kind == 0:
            del some[at]
        elif kind == 1:
            some.insert(chance.randrange(len(some) + 1), some[at])
        else:
            other = chance.randrange(len(some))
            some[at], some[other] = some[other], some[at]
        return tuple(some)
    if type(part) is tuple and kind == 3:
        return list(part)
    if type(part) is bool and kind < 3:
        return (int(part), not part, str(part))[kind]
    if type(part) is int and kind < 3:
        return (part - 1, part + 1, bool(part))[kind]
    return chance.choice(ODD) if chance.random() < 0.5 else chance.choice(pool)


def changes(chance, thing, many):
    """Things that differ from this one in one part."""
    places = list(paths(thing))
    # Deep parts are the most, but the others matter as well.
    shallow = [path for path in places if len(path) <= 3]
    for _ in range(many):
        path = chance.choice(shallow if chance.random() < 0.4 else places)
        pool = [at_path(thing, chance.choice(places)) for _ in range(3)]
        yield replaced(thing, path, other_part(chance, at_path(thing, path), pool))
