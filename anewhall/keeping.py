"""What is kept of the works that were run: their runs, and the knots that they are in."""


class Run:
    """One run of a work: what it read, as (name, answer), in order, and its answer."""

    def __init__(self, name, reads, answer):
        self.name = name
        # A tuple, so that nobody who holds the run can change it.
        self.reads = tuple(reads)
        self.answer = answer

    def names_read(self):
        """The names that it read, each once, in the order in which they were read first."""
        return list({name: True for name, _ in self.reads})


class Knot:
    """Works that are kept together, and let go together.

    recipes has, for each of its works, the recipe by which it was run, and ran
    all its runs in the ask in which that was, in their order. A knot is never
    changed once it is there, so points may share it with the hall.
    """

    def __init__(self, recipes, ran):
        self.recipes = recipes
        self.ran = ran

    def last_run(self, name):
        """The last run of one of its works."""
        return self.ran[name][-1]

    def first_run_with(self, name, answer):
        """The first run of one of its works that came to the answer or more."""
        return [run for run in self.ran[name] if run.answer >= answer][0]

    def is_ring(self):
        """Whether its works lean on one another, or its one work on itself."""
        if len(self.ran) > 1:
            return True
        return any([name in self.last_run(name).names_read() for name in self.ran])

    def works_from(self, entry):
        """Its works, each behind one that read it, beginning with the entry."""
        works = [entry]
        at = 0
        while at < len(works):
            run = self.last_run(works[at])
            for name in run.names_read():
                if name in self.ran and name not in works:
                    works.append(name)
            at += 1
        return works

    def outside_from(self, entry):
        """What its works read of names outside, as (name, answer), found from the entry on.

        Were the entry run anew, each of these names would surely be read again as
        long as those ahead of it have the answers that were read. So to come to
        them in this order is to come to nothing that isn't leaned on anyway.
        """
        outside = []
        seen = {}
        for work in self.works_from(entry):
            waiting = list(self.last_run(work).reads[::-1])
            while waiting:
                name, answer = waiting.pop()
                if name not in self.ran:
                    outside.append((name, answer))
                elif answer > 0 and (name, answer) not in seen:
                    # What was read behind this answer is sure only where the answer is:
                    # first come the reads from which it was reckoned.
                    seen[(name, answer)] = True
                    waiting.extend(self.first_run_with(name, answer).reads[::-1])
        return outside
