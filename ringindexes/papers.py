"""Papers: tuples that say something about a scheme, or hands, at a size and show it."""

from ringindexes.gaps import lowest_bit
from ringindexes.handcheck import hands_verdict
from ringindexes.hands import switches_of
from ringindexes.runs import show_run
from ringindexes.schemes import show_scheme
from ringindexes.slots import modulus_of
from ringindexes.verdicts import verdict_of


def paper_of(scheme, n):
    """The paper for the verdict on a scheme at a size."""
    verdict = verdict_of(scheme, n)
    text = show_scheme(scheme)
    if verdict.cause == "nothing":
        return "nothing", text, n
    if verdict:
        first, second = divided(scheme, n)
        return "right", text, n, first, second
    return "broken", text, n, show_run(verdict.run), verdict.run.all_deeds()


def hands_paper(hands, n):
    """The paper for the verdict on hands at a size."""
    verdict = hands_verdict(hands, n)
    scheme = hands.scheme
    if verdict.cause == "scheme":
        return paper_of(scheme, n)
    text = show_scheme(scheme)
    if verdict:
        first, second = divided(scheme, n)
        return "hands right", text, n, switches_of(hands), first, second
    return "hands broken", text, n, switches_of(hands), verdict.start, verdict.run


def divided(scheme, n):
    """The two numbers that show why a scheme is right: how its counters, or its mask, go into the slots."""
    if scheme.slot == "mask":
        first = lowest_bit(n)
        return first, n // first
    modulus = modulus_of(scheme, n)
    return modulus // n, modulus % n
