"""How the caller gets into a case, and out of it again, with as few moves as possible."""


def way_into(case):
    """The moves that lead into a case, on a new database."""
    state, outer, held = case
    found = []
    if outer != ():
        found.append("enter join")
        found.extend([f"write {record}" for record in outer])
        found.append("enter outside" if state == "none" else "enter apart")
    elif state != "none":
        found.append("enter join")
    found.extend([f"write {record}" for record in held])
    if state == "doomed":
        found.append("doom")
    return tuple(found)


def way_out(case, keeps):
    """The moves by which all blocks of `way_into` are left; keeps: what is pending is kept."""
    state, outer, _ = case
    found = []
    if state != "none":
        found.extend(["leave", "yes"] if keeps else ["leave late"])
    elif outer != ():
        found.append("leave")
    if outer != ():
        found.append("leave late")
    return tuple(found)
