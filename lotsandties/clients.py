"""The clients of a desk."""


class Client:
    """What a client waits for, and what a client has open."""

    def __init__(self):
        self.waiting = []
        # From nodes to the number of times they are open.
        self.opened = {}

    def note(self, deed, answer):
        """Note a deed of the client that was done."""
        if deed[0] == "open":
            self.opened[answer] = self.opened.get(answer, 0) + 1
        elif deed[0] == "shut":
            n = deed[1]
            self.opened[n] -= 1
            if self.opened[n] == 0:
                del self.opened[n]

    def open_nodes(self):
        """Return the nodes that the client has open, ascending, each as often as it is open."""
        return [n for n in sorted(list(self.opened)) for _ in range(self.opened[n])]
