"""Scripts as code for a machine, and passes that make scripts simpler."""

from quotedback.compiling import things_of_script
from quotedback.copies import fresh
from quotedback.firsts import are_free
from quotedback.passes import DeadEnds, Fuser, Unquoter, WordFolder
from quotedback.rewriting import rewritten
from quotedback.runner import runner_of
from quotedback.runs import check_limit, ended_run
from quotedback.shortening import shortened
from quotedback.stepping import run_to_end
from quotedback.trees import check_script
from quotedback.worlds import check_world


def compiled(script):
    check_script(script)
    return fresh(things_of_script(script))


def run_code(code, world, text, limit):
    check_world(world)
    check_limit(limit)
    runner = runner_of(code, world, text)
    run_to_end(runner, limit)
    return (runner.standing_world(), runner.out_text, runner.err_text, fresh(runner.log))


def shorter(code):
    return fresh(shortened(code))


def folded_words(script):
    return passed(WordFolder(), script)


def dead_left_out(script):
    return passed(DeadEnds(), script)


def unquoted(script):
    return passed(Unquoter(), script)


def fused(script):
    return passed(Fuser(), script)


def passed(rewriter, script):
    """Returns a new script behind a pass, and the places at which it did something."""
    check_script(script)
    return fresh(rewritten(rewriter, script))


def all_passes(script):
    check_script(script)
    places = []
    ahead = None
    while script != ahead:
        ahead = script
        for rewriter in (WordFolder(), DeadEnds(), Unquoter(), Fuser()):
            script, told = rewritten(rewriter, script)
            places.extend(told)
    return fresh((script, places))


def same_events(one, other, worlds, limit):
    check_script(one)
    check_script(other)
    for world, _ in worlds:
        check_world(world)
    check_limit(limit)
    for at, (world, text) in enumerate(worlds):
        # Both are done, since either may take too many steps.
        events = events_without_do(one, world, text, limit)
        if events_without_do(other, world, text, limit) != events:
            return at
    return None


def events_without_do(script, world, text, limit):
    return [event for event in ended_run(script, world, text, limit).log if event[0] != "do"]


def status_free(script):
    check_script(script)
    return are_free(script)
