"""Reports that are alike, and books that part others."""

from pagebureau.flows.pipelines import check_straight
from pagebureau.judge.growth import check_question, first_book, joined_machine
from pagebureau.judge.letters import letters_of


def parting(first, second):
    check_question([first, second])
    machine = joined_machine([first, second])
    return first_book(machine, letters_of(first, second), lambda results: results[0] != results[1])


def alike(first, second):
    return parting(first, second) is None


def may_swap(report, at):
    check_straight(report.pipeline)
    return alike(report, report.with_steps(report.pipeline.swapped(at)))


def needless_steps(report):
    return [
        at for at in range(len(report.pipeline))
        if alike(report, report.with_steps(report.pipeline.without(at)))
    ]
