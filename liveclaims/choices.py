"""Choices: what becomes of a claim under other settings."""

from liveclaims.claims import check_claim, labels_for, truth, written_setting
from liveclaims.errors import TooLarge

MOST_SETTINGS = 64


def check_number_of_settings(labels):
    count = 1
    for label, number in labels:
        count = count * number
    if count > MOST_SETTINGS:
        raise TooLarge(count)


def every_setting(labels):
    """All settings of these labels, as tuples of (label, index), in ascending order."""
    settings = [()]
    for label, number in labels:
        settings = [begun + ((label, index),) for begun in settings for index in range(number)]
    return settings


def truth_under(notebook, claim, setting):
    """The truth under a setting that is a tuple of (label, index); it lists the try, and keeps nothing."""
    try:
        return truth(notebook, claim, setting={label: index for label, index in setting})
    except TooLarge:
        return None


def robustness(notebook, claim):
    check_claim(notebook, claim)
    labels = labels_for(notebook, claim)
    check_number_of_settings(labels)
    settings = every_setting(labels)
    truths = [truth_under(notebook, claim, setting) for setting in settings]
    lists = [[setting for setting, found in zip(settings, truths) if found == wanted]
             for wanted in (True, False, None)]
    return tuple(lists)


def settings_beside(setting, label, number):
    """The settings in which only this label has another index, ascending."""
    others = [tuple([(name, index if name == label else used) for name, used in setting]) for index in range(number)]
    return [other for other in others if other != setting]


def decisive(notebook, claim):
    check_claim(notebook, claim)
    labels = labels_for(notebook, claim)
    setting = written_setting(labels, notebook.setting())
    now = truth_under(notebook, claim, setting)
    found = []
    for label, number in labels:
        # All of them are asked, also behind the first one that differs.
        truths = [truth_under(notebook, claim, other) for other in settings_beside(setting, label, number)]
        if any([other != now for other in truths]):
            found.append(label)
    return found
