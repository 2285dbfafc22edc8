"""The desk: several clients that work on one store."""

from lotsandties.carrying import carried
from lotsandties.clients import Client
from lotsandties.comingup import come_up
from lotsandties.deeds import check_deed
from lotsandties.disk import Disk
from lotsandties.errors import BadValue, InUse, NameTaken, NoSuchName, NothingToUndo
from lotsandties.findings import findings
from lotsandties.finishing import finish
from lotsandties.playing import play
from lotsandties.reading import read_tree
from lotsandties.store import Store
from lotsandties.storemoves import flush
from lotsandties.texts import is_name
from lotsandties.undoing import backwards


def _check_new(name, known):
    """Raise an error unless a text is a name that is not known yet."""
    if not is_name(name):
        raise BadValue(f"not a name: {name}")
    if name in known:
        raise NameTaken(f"there is one with the name {name}")


class Desk:
    """A store, its clients, and a journal of what they did."""

    def __init__(self, plan, book):
        self.store = Store(plan, book)
        # Tuples of client, deed, outcome and lot.
        self.journal = []
        self._clients = {}
        # From labels to tree rows.
        self._copies = {}
        # Lists of deeds; the last one undoes the deed that was done last.
        self._undos = []

    def join(self, name):
        """Add a client."""
        _check_new(name, self._clients)
        self._clients[name] = Client()

    def client_names(self):
        """Return the names of the clients in the order in which they joined."""
        return list(self._clients)

    def ask(self, name, deed):
        """Let a deed of a client wait for its turn."""
        client = self._client(name)
        check_deed(deed)
        client.waiting.append(deed)

    def waiting_deeds(self, name):
        """Return the waiting deeds of a client."""
        return list(self._client(name).waiting)

    def open_nodes(self, name):
        """Return the nodes that a client has open."""
        return self._client(name).open_nodes()

    def turn(self, name, *, wish=0):
        """Do the first waiting deed of a client and return the outcome."""
        client = self._client(name)
        if len(client.waiting) == 0:
            return ("nothing", "")
        deed = client.waiting[0]
        before = self.store.image
        outcome = self._outcome(client, deed, wish)
        if outcome[0] == "notlet":
            return outcome
        client.waiting.pop(0)
        self._write(name, deed, outcome)
        if outcome[0] == "done":
            client.note(deed, outcome[1])
            self._keep_undo(backwards(before, deed))
        return outcome

    def leave(self, name):
        """Shut what a client has open and let the client go."""
        client = self._client(name)
        self._do_all(name, [("shut", n) for n in client.open_nodes()])
        del self._clients[name]

    def undo(self):
        """Undo the last deed that can be undone; return the number of deeds that this took."""
        if len(self._undos) == 0:
            raise NothingToUndo("there is nothing to undo")
        deeds = self._undos[-1]
        self._do_all("", deeds)
        self._undos.pop()
        return len(deeds)

    def rows(self):
        """Return the tree rows."""
        return read_tree(self.store.image)

    def save(self, label):
        """Keep the tree rows as a copy."""
        _check_new(label, self._copies)
        self._copies[label] = self.rows()

    def saved(self, label):
        """Return the tree rows of a copy."""
        self._check_copy(label)
        return list(self._copies[label])

    def drop(self, label):
        """Give up a copy."""
        self._check_copy(label)
        del self._copies[label]

    def check(self):
        """Return the findings on the running image."""
        return findings(self.store.image)

    def flush(self):
        """Bring all deeds to the disk; tell if they were told safe."""
        rows = flush(self.store)
        return rows[-1:] == [("told",)]

    def stop(self, keep):
        """Stop the store and let it come up; return its number and the fault."""
        found = come_up(self.store.cut(keep), self.store.book)
        fault = self.store.chronicle.fault(found.number, found.image)
        if fault == "":
            finish(found)
        self.store = found
        self.journal = [entry for entry in self.journal if entry[3] <= found.number]
        self._undos = []
        for client in self._clients.values():
            client.opened = {}
        return (found.number, fault)

    def move(self, plan):
        """Move the tree to another plan."""
        if len(self.store.image.handles) > 0:
            raise InUse("a file is open")
        image = carried(self.store.image, plan)
        home_ids = [image.identity(x) for x in range(plan.blocks)]
        self.store = Store.resumed(self.store.book, Disk.of_image(image), image, 0, [], home_ids)
        self.journal = [(name, deed, outcome, 0) for name, deed, outcome, _ in self.journal]
        self._undos = []

    def _client(self, name):
        if name not in self._clients:
            raise NoSuchName(f"no client has the name {name}")
        return self._clients[name]

    def _check_copy(self, label):
        if label not in self._copies:
            raise NoSuchName(f"no copy has the label {label}")

    def _outcome(self, client, deed, wish):
        """Do a deed of a client and return the outcome."""
        if deed[0] == "shut" and deed[1] not in client.opened:
            return ("refused", "")
        return play(self.store, [("do", wish, deed)])[0]

    def _write(self, name, deed, outcome):
        """Write a deed into the journal."""
        self.journal.append((name, deed, outcome, self.store.present))

    def _do_all(self, name, deeds):
        """Do several deeds, or none of them if one would raise an error."""
        self.store.check_deeds(deeds)
        for deed in deeds:
            answer = self.store.do(deed)
            self._write(name, deed, ("done", answer))

    def _keep_undo(self, deeds):
        """Keep the deeds that undo a deed; None stands for a deed that cannot be undone, nor what was before it."""
        if deeds is None:
            self._undos = []
        elif deeds:
            self._undos.append(deeds)
