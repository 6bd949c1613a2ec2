"""The ruling of entries that look at each other."""

from smallcourt.ruling import outcome


class Bench:
    """Courts that rule cases; a case that a court has ruled once is not read anew."""

    def __init__(self, courts):
        self.courts = list(courts)
        self.found = {}

    def ruled(self, entries, forced, appealed):
        """Return a dict from the labels of entries to tuples (ruling, decider, full case).

        `forced` is a dict from labels to rulings that these entries have in any case; `appealed` are the
        labels of those that are ruled one court higher.
        """
        told = {}
        for label, case, looks, court in entries:
            added = [fact for earlier, ruling, fact in looks if told[earlier][0] == ruling]
            full = tuple(sorted(set(list(case) + added)))
            result = self.ruled_by(court + 1 if label in appealed else court, full)
            told[label] = (forced[label],) + result[1:] if label in forced else result
        return told

    def ruled_by(self, court, case):
        """Return the tuple (ruling, decider, case) of a case by the court with a number."""
        if (court, case) not in self.found:
            self.found[(court, case)] = outcome(self.courts[court], case) + (case,)
        return self.found[(court, case)]
