"""The errors that the program raises."""


class AlarmError(ValueError):
    """What all errors of the program have in common."""


class NetError(AlarmError):
    """An argument net is no net."""


class ComponentError(AlarmError):
    """An argument is no component of the net."""


class SetError(AlarmError):
    """An argument is no set of components of the net."""


class ReportError(AlarmError):
    """An argument is no report of the net."""


class WordError(AlarmError):
    """An argument is none of the words of a report."""


class NumberError(AlarmError):
    """An argument is no number, or not one of those that are let."""


class TextError(AlarmError):
    """An argument is not the text of a net."""


class NothingDone(AlarmError):
    """There is nothing to take back."""


class Unexplained(AlarmError):
    """A report has no explanation: alarm and quiets show it as a verdict does."""

    def __init__(self, alarm, quiets):
        super().__init__(f"component {alarm} alarms, but the quiet ones {quiets} clear all of its reach")
        self.alarm = alarm
        self.quiets = quiets


class LimitError(AlarmError):
    """There would be more of something than is let."""

    def __init__(self, amount, limit):
        super().__init__(f"there would be {amount}, but at most {limit} are let")
        self.amount = amount
        self.limit = limit
