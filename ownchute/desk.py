"""Desks: lines about a hall, and their answers."""

from ownchute.answers import answer_to


class Desk:
    """Answers lines about one hall, and keeps them."""

    def __init__(self, hall):
        self._hall = hall
        self._log = []

    @property
    def hall(self):
        """The hall."""
        return self._hall

    def say(self, line):
        """Return the answer to a line."""
        answer = answer_to(self._hall, line)
        self._log.append((line, answer))
        return answer

    def __call__(self, line):
        """Do what `say` does."""
        return self.say(line)

    def log(self):
        """Return the list of the pairs (line, answer)."""
        return list(self._log)

    def __len__(self):
        return len(self._log)

    def __repr__(self):
        return f"Desk({len(self._log)} lines)"
