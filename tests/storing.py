"""What the tests of stores need."""

from helpers import disk_state, small_plan, state

from lotsandties.books import Book
from lotsandties.errors import NotLet
from lotsandties.rulings import unsent_blocks
from lotsandties.store import Store

# The least right books (point 103), found with the table of standings, and the full one.
RIGHT_BOOKS = (
    "copies mark words reuse revoke lapse frozen room told",
    "copies mark words late revoke lapse frozen room told",
    "copies mark words reuse shelve frozen room told",
    "copies mark words late shelve frozen room told",
    "copies mark words reuse revoke lapse wait room told",
    "copies mark words late revoke lapse wait room told",
    "copies mark words reuse shelve wait room told",
    "copies mark words late shelve wait room told",
    "copies mark words reuse late revoke lapse shelve frozen wait room told",
)


def without(*rules):
    """The book with all rules but these."""
    return Book.full() - Book(rules)


def new_store(book=None, plan=None):
    return Store(plan or small_plan(), book or Book.full())


def busy_homes(store):
    return [place[1] for _, place, _ in store.disk.pending() if place[0] == "home"]


def copy_all(store):
    """Issue the copies that are missing and make all writes sure."""
    for x in store.due():
        if x not in store.closing.copies:
            store.copy(x)
    store.barrier()


def send_words(store):
    """Send the words of the closing lot home and make them sure."""
    for x in unsent_blocks(store.closing.image, store.committed, store.home_ids, busy_homes(store)):
        store.words(x)
    store.barrier()


def commit(store, *deeds, wish=0):
    """Do deeds, and close and commit the lot."""
    for deed in deeds:
        store.do(deed, wish=wish)
    store.close()
    copy_all(store)
    send_words(store)
    store.mark()
    store.barrier()
    return store


def write_home(store):
    """Write all committed logged blocks home and make them sure."""
    for x in range(store.plan.blocks):
        if store.committed.kind(x) == 1 and store.home_ids[x] != store.committed.identity(x):
            store.home(x)
    store.barrier()


def empty_log(store):
    write_home(store)
    while store.window:
        store.room()


def lot_state(lot):
    if lot is None:
        return None
    return (lot.number, None if lot.image is None else state(lot.image), tuple(sorted(lot.copies.items())),
            tuple(sorted(lot.identities.items())), lot.mark, lot.mark_slot, lot.revokes)


def chronicle_state(store):
    versions = []
    for x in store.plan.data_blocks():
        for holding in range(store.image.serial + 2):
            versions.append(tuple(store.chronicle.versions(x, holding)))
    known = tuple(number for number in range(60) if number in store.chronicle)
    return (store.chronicle.safe, known, tuple(versions))


def store_state(store):
    """Everything that a store holds, as a value of its own."""
    return (store.plan.text(), store.book.text(), state(store.image), state(store.committed), store.number,
            lot_state(store.closing), tuple(lot_state(lot) for lot in store.window), disk_state(store.disk),
            tuple(store.home_ids), chronicle_state(store))


def kept_out(test, error, step, store, *arguments, **more):
    """Check that a step raises this very error and leaves the store and its disk as they were."""
    whole = store_state(store)
    with test.assertRaises(error) as caught:
        step(*arguments, **more)
    test.assertIs(type(caught.exception), error)
    test.assertEqual(store_state(store), whole)
    return caught.exception


def not_let(test, rule, step, store, *arguments, **more):
    test.assertEqual(kept_out(test, NotLet, step, store, *arguments, **more).rule, rule)
