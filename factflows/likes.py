"""One form for all analyses that are alike for their questions [74]."""

from factflows.analyses import found_values
from factflows.fits import all_maps, check_statements
from factflows.joins import turned_back
from factflows.least import least_of


def _formed(analysis, answers):
    """The form of a least analysis, and the list of its values by their numbers in the form."""
    values = found_values(analysis.joins, all_maps(analysis), analysis.begin)
    return (analysis.moved(turned_back(values)), [answers[value] for value in values], values)


def least_form(analysis, answers):
    """The least analysis and its answers, with numbers of the values that do not depend on those passed in."""
    least, told, _ = least_of(analysis, answers)
    form, moved, _ = _formed(least, told)
    return (form, moved)


def same_values(one, mine, other, its):
    """None if two analyses are not alike; otherwise for each value of the least of one that of the least of other."""
    check_statements(one, other)
    ours, our_answers, _ = least_of(one, mine)
    theirs, their_answers, _ = least_of(other, its)
    form, told, values = _formed(ours, our_answers)
    other_form, other_told, others = _formed(theirs, their_answers)
    if form != other_form or told != other_told:
        return None
    return [others[number] for number in turned_back(values)]
