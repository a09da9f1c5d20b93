"""Orders: jobs to be placed one after the other, each late by what lies beyond its due."""

from seekways.forms import are_between, demand, is_between, is_tuple_of
from seekways.tasks import Task

MOST_JOBS = 6
MOST_LENGTH = 20
MOST_DUE = 120


def is_job(thing):
    """Whether a thing is a pair (length, due)."""
    return is_tuple_of(thing, 2, 2) and is_between(thing[0], 1, MOST_LENGTH) and is_between(thing[1], 0, MOST_DUE)


class Orders(Task):
    """A task whose standings have 1 for each job that is placed."""

    def __init__(self, jobs):
        demand(is_tuple_of(jobs, 1, MOST_JOBS) and all([is_job(job) for job in jobs]), "jobs")
        self.jobs = jobs

    def start(self):
        """No job is placed."""
        return (0,) * len(self.jobs)

    def has(self, thing):
        """Whether a thing, whatever it is, has 0 or 1 for each job."""
        return is_tuple_of(thing, len(self.jobs), len(self.jobs)) and are_between(thing, 0, 1)

    def nexts(self, standing):
        """Each job that isn't placed, for what it is late."""
        return tuple([(self.late(standing, job), standing[:job] + (1,) + standing[job + 1:])
                      for job in self.left(standing)])

    def is_done(self, standing):
        """Whether all jobs are placed."""
        return 0 not in standing

    def bound(self, standing):
        """What all that aren't placed would be late, together, if each were next."""
        return sum([self.late(standing, job) for job in self.left(standing)])

    def left(self, standing):
        """The numbers of the jobs that aren't placed."""
        return [job for job, placed in enumerate(standing) if placed == 0]

    def late(self, standing, job):
        """By how much a job would be above its due if it were next."""
        length, due = self.jobs[job]
        before = sum([done[0] for done, placed in zip(self.jobs, standing) if placed == 1])
        return max(0, before + length - due)
