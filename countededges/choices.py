"""Choices out of a list."""


def choices_of(things):
    """The list of all lists that can be made by leaving out some of the things, or none."""
    choices = [[]]
    for thing in things:
        choices = choices + [[*choice, thing] for choice in choices]
    return choices
