"""Values for the tests of wrong inputs."""

from seenrules.errors import InvalidCase, NothingToUndo, SeenError
from seenrules.kinds import Kind
from seenrules.logs import Log
from seenrules.rulelists import RuleList

BARE = Kind([], ["a", "b"])


def nested(levels):
    """Return a list with this many levels of lists, tuples and dicts in each other."""
    value = [None, "a", 1]
    for level in range(levels - 1):
        value = [[value, 1], (value, "a"), {"a": value, 1: None}][level % 3]
    return value


# None of these is a word, a number, an index, a case, a test, a rule, an entry or a text of anything, or a list that
# is asked for anywhere; a few are kinds, logs and rule lists.
NEVER_VALID = [
    None,
    True,
    False,
    10000,
    -10000,
    10**30 - 1,
    1 - 10**30,
    "",
    " ",
    "\n",
    "abcdefg",
    "Ab",
    "a b",
    "a\n",
    "a" * 200,
    "~!\"#$&'()*+,-./",
    {},
    {"a": "word"},
    {1: "a", 2: "b"},
    {"a": "b", "b": "a"},
    [None],
    (None,),
    [True, False],
    [[]],
    ((),),
    [["a", "b"], ["c"]],
    [{}, {}],
    ["", ""],
    ["a", 1],
    ("a", None),
    [1, 2],
    (1, "is", "a"),
    (("a", "b"),),
    [("a", "b"), ("c", "d")],
    ["A"] * 110,
    [["a"]] * 110,
    nested(6),
    (nested(5),),
    {"a": nested(5)},
    BARE,
    [Kind([("a", "word")], ["a", "b"])],
    (BARE, "is", "a"),
    {"a": BARE},
    Log(BARE),
    Log(BARE, [((), "a")]),
    [Log(BARE, [((), "a")])],
    RuleList(BARE, [([], "a")]),
    (RuleList(BARE, [([], "a")]), Log(BARE)),
    {"a": Log(BARE), "b": RuleList(BARE, [([], "b")])},
    SeenError("a"),
    InvalidCase("a"),
    [NothingToUndo()],
]
