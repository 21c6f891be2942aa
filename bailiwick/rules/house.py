"""The classes of the house, as rows of what a class is made of."""

HOUSE_SHAPES = ("alias", "group", "rule", "share")
HOUSE_EXTRA = "apart"
# What an entry of each shape must bear, and what it may bear.
HOUSE_MUST = {
    "alias": ("label", "to"),
    "group": ("label",),
    "rule": ("label", "may", "rank", "what"),
    "share": ("label",),
}
HOUSE_MAY = {
    "alias": (),
    "group": ("chosen", "ground", "member"),
    "rule": ("below", "grants", "least", "most", "of", "who", "whom", "without"),
    "share": ("least", "most", "of", "without"),
}


def house_rows(types, shapes):
    """The house's classes for types and shapes that are not the house's.

    Each one is a tuple (name, family, must, may, named, places, lets), ascending by name.
    """
    # A share can give each type that an entry may have several values of.
    shared = [each.name for each in types if not each.is_single]
    places = tuple(sorted(["", *shapes, *HOUSE_SHAPES]))
    rows = [(HOUSE_EXTRA, "extra", (), ("unshared",), (), (), ())]
    for name in HOUSE_SHAPES:
        more = shared if name == "share" else []
        may = tuple(sorted([*HOUSE_MAY[name], *more]))
        rows.append((name, "shape", HOUSE_MUST[name], may, ("label",), places, (HOUSE_EXTRA,)))
    return sorted(rows)
