"""The tools, which know nothing of the shell but the files, the folder and what they read."""

from quotedback.errors import UnknownTool
from quotedback.names import TOOLS
from quotedback.toolwork import job_done
from quotedback.worlds import check_world, with_files


def is_tool(name):
    return name in TOOLS


def tool(fields, world, text):
    check_world(world)
    if fields == [] or not is_tool(fields[0]):
        raise UnknownTool(list(fields))
    job = job_done(fields, world[0], world[1], text)
    return (world_behind(world, job), job.out_text, job.err_text, job.status, job.rest)


def world_behind(world, job):
    """Returns a new world that has the files and the status of a job."""
    changed = with_files(world, dict(job.files))
    return (changed[0], job.folder, changed[2], changed[3], changed[4], job.status, changed[6])
