"""The steps of the document written a second time, plainly and slowly, to be compared with the program.

A world is a dict; each of its caches is a dict with the letters under way as dicts from kind to data.
"""

from copy import deepcopy
from itertools import permutations


class Jam(Exception):
    """A letter would be put beside another one of its kind."""


class Never(Exception):
    """The step cannot be taken."""


def first_world(book, n):
    cache = {"state": book.states()[0][0], "copy": "none", "mark": book.marks()[0], "ups": {}, "downs": {}}
    return {"task": None, "memory": "last", "owner": None, "asker": None,
            "caches": [deepcopy(cache) for _ in range(n)]}


def need(holds):
    if not holds:
        raise Never()


def traits_of(book, state):
    return dict(book.states())[state]


def task_of(book, name):
    return [task for task in book.tasks() if task[0] == name][0]


def post(road, kind, bears, data):
    if kind is None:
        return
    if kind in road:
        raise Jam()
    road[kind] = data if bears else None


def send_up(book, cache, kind):
    post(cache["ups"], kind, dict(book.ups()).get(kind), cache["copy"])


def send_down(book, world, i, kind):
    post(world["caches"][i]["downs"], kind, dict(book.downs()).get(kind), world["memory"])


def go(book, cache, state):
    cache["state"] = state
    if "h" not in traits_of(book, state):
        cache["copy"] = "none"


def wish(book, world, i, index):
    need(i < len(world["caches"]) and index < len(book.wishes()))
    begin, goal, up = book.wishes()[index]
    cache = world["caches"][i]
    need(cache["state"] == begin)
    send_up(book, cache, up)
    go(book, cache, goal)


def answer(book, world, i, down):
    need(i < len(world["caches"]))
    cache = world["caches"][i]
    need(down in cache["downs"])
    rows = [row for row in book.answers() if row[0] == cache["state"] and row[1] == down]
    need(rows)
    data = cache["downs"].pop(down)
    if dict(book.downs())[down]:
        cache["copy"] = data
    send_up(book, cache, rows[0][3])
    go(book, cache, rows[0][2])


def take(book, world, i, up):
    need(i < len(world["caches"]))
    cache = world["caches"][i]
    need(up in cache["ups"])
    if world["task"] is None:
        rows = [row[2:] for row in book.idles() if row[:2] == (cache["mark"], up)]
    else:
        need(world["asker"] != i)
        rows = [row[3:] for row in book.busies() if row[:3] == (world["task"], cache["mark"], up)]
    need(rows)
    data = cache["ups"].pop(up)
    if dict(book.ups())[up] and world["owner"] == i:
        world["memory"] = data
    if len(rows[0]) == 1:
        begin(book, world, i, rows[0][0])
        return
    mark, down, frees = rows[0]
    cache["mark"] = mark
    send_down(book, world, i, down)
    if frees and world["owner"] == i:
        world["owner"] = None


def begin(book, world, i, name):
    world["task"], world["asker"] = name, i
    calls = dict(zip(book.marks(), task_of(book, name)[1]))
    for j, cache in enumerate(world["caches"]):
        if j != i:
            cache["mark"], down = calls[cache["mark"]]
            send_down(book, world, j, down)


def end(book, world):
    need(world["task"] is not None)
    _, _, quiet, ends, mark, down, owner = task_of(book, world["task"])
    others = [cache for j, cache in enumerate(world["caches"]) if j != world["asker"]]
    need(all(cache["mark"] in quiet for cache in others))
    for cache in others:
        cache["mark"] = ends[book.marks().index(cache["mark"])]
    world["caches"][world["asker"]]["mark"] = mark
    send_down(book, world, world["asker"], down)
    if owner != "stays":
        world["owner"] = world["asker"] if owner == "asker" else None
    world["task"] = world["asker"] = None


def put(book, world, i):
    need(i < len(world["caches"]))
    need("p" in traits_of(book, world["caches"][i]["state"]))
    world["memory"] = older(world["memory"])
    for cache in world["caches"]:
        cache["copy"] = older(cache["copy"])
        for road in (cache["ups"], cache["downs"]):
            for kind in road:
                road[kind] = older(road[kind])
    world["caches"][i]["copy"] = "last"


def older(data):
    return "elder" if data == "last" else data


ACTIONS = {"wish": wish, "answer": answer, "take": take, "end": end, "put": put}


def tried(book, world, step):
    """What comes of the step: ("no", None), ("jam", None) or ("ok", the world behind it)."""
    behind = deepcopy(world)
    try:
        ACTIONS[step[0]](book, behind, *step[1:])
    except Never:
        return ("no", None)
    except Jam:
        return ("jam", None)
    return ("ok", behind)


def all_steps(book, n):
    """Every step that there could be, in the order of steps()."""
    found = []
    for i in range(n):
        found += [("wish", i, index) for index in range(len(book.wishes()))]
        found += [("answer", i, kind) for kind, _ in book.downs()]
        found += [("take", i, kind) for kind, _ in book.ups()]
        found.append(("put", i))
    return found + [("end",)]


def moves(book, world):
    """The list of (step, world behind it) of all steps that do not jam."""
    rows = [(step, tried(book, world, step)) for step in all_steps(book, len(world["caches"]))]
    return [(step, behind) for step, (word, behind) in rows if word == "ok"]


def is_deaf(book, world, i):
    if world["task"] is None or world["asker"] == i:
        return False
    quiet = task_of(book, world["task"])[2]
    rows, met = [world], []
    while rows:
        now = rows.pop()
        cache = now["caches"][i]
        key = (cache["state"], cache["mark"], sorted(cache["ups"]), sorted(cache["downs"]))
        if key in met:
            continue
        met.append(key)
        if cache["mark"] in quiet:
            return False
        rows += [behind for step, behind in moves(book, now)
                 if step[0] in ("answer", "take") and step[1] == i]
    return True


def wrongs(book, world):
    found = []
    for i, cache in enumerate(world["caches"]):
        if "r" in traits_of(book, cache["state"]) and cache["copy"] != "last":
            found.append(("stale", i))
    for step in all_steps(book, len(world["caches"])):
        if tried(book, world, step)[0] == "jam":
            found.append(("jam", step))
    return found + [("deaf", i) for i in range(len(world["caches"])) if is_deaf(book, world, i)]


def told(book, world):
    """The world as a Moment tells it: (home, caches)."""
    caches = []
    for cache in world["caches"]:
        ups = tuple((kind, cache["ups"][kind]) for kind, _ in book.ups() if kind in cache["ups"])
        downs = tuple((kind, cache["downs"][kind]) for kind, _ in book.downs() if kind in cache["downs"])
        caches.append((cache["state"], cache["copy"], cache["mark"], ups, downs))
    return ((world["task"], world["memory"], world["owner"], world["asker"]), caches)


def class_key(book, world):
    """The least of all the renamings of the world."""
    (task, memory, owner, asker), caches = told(book, world)
    rows = [(cache, i == owner, i == asker) for i, cache in enumerate(caches)]
    return (str(task), memory, min(order for order in permutations(rows)))


def layers(book, n, many):
    """Classes by the number of steps to them: lists of worlds, until there are none, or many in all."""
    layer = [first_world(book, n)]
    met = {class_key(book, layer[0])}
    found = []
    while layer:
        found.append(layer)
        if len(met) > many:
            return found
        further = []
        for world in layer:
            for _, behind in moves(book, world):
                key = class_key(book, behind)
                if key not in met:
                    met.add(key)
                    further.append(behind)
        layer = further
    return found
