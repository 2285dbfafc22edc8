"""The findings of the checker on an image."""

from lotsandties.checks import Check
from lotsandties.namechecks import check_folders, check_list
from lotsandties.nodechecks import check_nodes
from lotsandties.sumchecks import check_counts, check_map, check_met, check_sums


def checked(image, *, numbered):
    """Return the check of an image after all stages."""
    check = Check(image, numbered)
    check_nodes(check)
    check_folders(check)
    check_list(check)
    check_met(check)
    check_counts(check)
    check_map(check)
    check_sums(check)
    return check


def findings(image, *, numbered=True):
    """Return the findings on an image, in the order in which they are met."""
    return checked(image, numbered=numbered).found
