"""A desk: a store that changes by deeds, which can be undone and done again."""

from chainpapers.deeds import store_behind, thing_text
from chainpapers.differences import are_steps
from chainpapers.errors import InvalidAnchor, InvalidCertificate, InvalidList, TooMany
from chainpapers.newlists import check_span, check_who, check_why, entries_with, entries_without, next_list, old_list
from chainpapers.texterrors import BadText, InvalidSteps, IsThere, NothingToRedo, NothingToUndo, NotThere
from chainpapers.texts import check_text

MOST_DEEDS = 200
LISTS = 1


class Desk:
    """A store, and the deeds by which it came from the empty one."""

    def __init__(self):
        self.held = ((), (), ())
        # Of each deed the step, and the store ahead of it; of each that is undone the store behind it.
        self.past = []
        self.undone = []

    def store(self):
        """Return the store."""
        return self.held

    def put(self, text):
        """Put in the certificate, list or anchor of a text."""
        check_text(text)
        self.act("put", text)

    def take_out(self, text):
        """Take out the certificate, list or anchor of a text."""
        check_text(text)
        self.act("out", text)

    def act(self, deed, text):
        """Do a deed, behind which nothing that was undone can be done again."""
        behind = store_behind(self.held, deed, text)
        if len(self.past) == MOST_DEEDS:
            raise TooMany(MOST_DEEDS)
        self.past.append(((deed, text), self.held))
        self.held = behind
        self.undone = []

    def deeds(self):
        """Return the list of the deeds in force, in order, as steps."""
        return [step for step, _ in self.past]

    def undo(self):
        """Take back the last deed in force, and return it as a step."""
        if not self.past:
            raise NothingToUndo("no deed is in force")
        step, ahead = self.past.pop()
        self.undone.append((step, self.held))
        self.held = ahead
        return step

    def redo(self):
        """Do the deed again that was taken back last, and return it as a step."""
        if not self.undone:
            raise NothingToRedo("no deed was taken back last")
        step, behind = self.undone.pop()
        self.past.append((step, self.held))
        self.held = behind
        return step

    def withdraw(self, issuer, sealer, serial, when, reason, since, until):
        """Put in a new list with one entry more, and return its text."""
        check_who(issuer, sealer, serial)
        check_why(when, reason)
        check_span(since, until)
        old = old_list(self.held[LISTS], issuer, sealer)
        entries = entries_with(old, (issuer, serial, when, reason))
        return self.put_list(next_list(old, issuer, sealer, (since, until), entries))

    def give_back(self, issuer, sealer, serial, since, until):
        """Put in a new list without an entry that is on hold, and return its text."""
        check_who(issuer, sealer, serial)
        check_span(since, until)
        old = old_list(self.held[LISTS], issuer, sealer)
        entries = entries_without(old, serial)
        return self.put_list(next_list(old, issuer, sealer, (since, until), entries))

    def put_list(self, own):
        """Put in a list, and return its text."""
        text = thing_text(LISTS, own)
        self.act("put", text)
        return text


def desk_of(deeds):
    """Return a new desk on which some deeds were done in order."""
    if not are_steps(deeds, MOST_DEEDS):
        raise InvalidSteps("these are no deeds")
    desk = Desk()
    for deed, text in deeds:
        try:
            desk.act(deed, text)
        except (BadText, InvalidCertificate, InvalidList, InvalidAnchor, IsThere, NotThere):
            raise InvalidSteps("one of these is no step of the desk's store as it is then")
    return desk
