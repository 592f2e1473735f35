"""Short ways to tell worlds, and to run texts in them."""

from quotedback.readings import read_script
from quotedback.runs import run

FILES = {"/a": "1\n", "/d": None, "/d/e": "x\ny", "/d/f": None, "/d/f/g": "2"}


def world(files=None, folder="/", names=(), arguments=(), title="me", status=0, functions=()):
    return (dict(FILES if files is None else files), folder, dict(names), list(arguments), title, status, dict(functions))


def ran(text, told=None, reads="", limit=300):
    """What a run of the script with a text returns."""
    return run(read_script(text), world({}) if told is None else told, reads, limit)
