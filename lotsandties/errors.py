"""All errors that the program raises."""


class StoreError(ValueError):
    """The base class of all errors of the program."""


class BadText(StoreError):
    """A text is not of the form that is asked for."""


class BadValue(StoreError):
    """A value is not one that is asked for."""


class Refused(StoreError):
    """A deed cannot be done on an image."""


class NotNow(StoreError):
    """A step of a store or a disk cannot be done at this moment."""


class NotLet(StoreError):
    """A rule of the book forbids the step."""

    def __init__(self, rule):
        super().__init__(f"the rule {rule} forbids this")
        self.rule = rule


class NoSuchName(Refused):
    """There is nothing with this name."""


class NameTaken(Refused):
    """The name is in use."""


class NotAFolder(Refused):
    """The node is not a folder."""


class NotAFile(Refused):
    """The node is not a file."""


class NotASign(Refused):
    """The node is not a sign."""


class FolderNotEmpty(Refused):
    """The folder has names."""


class FolderFull(Refused):
    """The folder has as many names as it can hold."""


class NodesFull(Refused):
    """All nodes are made."""


class BlocksFull(Refused):
    """No block may be taken."""


class OverQuota(Refused):
    """The owner's limit is reached."""


class TooLong(Refused):
    """A file cannot have so many cells."""


class TooManyLinks(Refused):
    """A node cannot have more names."""


class TooManySigns(Refused):
    """A walk cannot follow more signs."""


class IntoItself(Refused):
    """A folder cannot be moved into itself."""


class Unfinished(Refused):
    """The file has blocks behind its size."""


class ListFull(Refused):
    """The list of unfinished nodes is full."""


class RootFixed(Refused):
    """The root has no name."""


class NotOnList(Refused):
    """The node is not on the list of unfinished nodes, or it may not go on."""


class NotOpen(Refused):
    """The node is not open."""


class InUse(Refused):
    """A file is open."""


class LotClosing(NotNow):
    """A lot is closing."""


class NoLotClosing(NotNow):
    """No lot is closing."""


class NotDue(NotNow):
    """The block is not due, or its copy was issued."""


class MarkIssued(NotNow):
    """The mark of the closing lot was issued."""


class NotHeld(NotNow):
    """No image that counts holds the block in this way."""


class PlaceBusy(NotNow):
    """A write to the place is pending."""


class NoWrite(NotNow):
    """No write with this number is pending."""


class LogFull(NotNow):
    """No slot of the log is free."""


class LogEmpty(NotNow):
    """The window has no lot."""


class NothingToUndo(NotNow):
    """The stack of lists of deeds is empty."""
