"""Policies whose numbers of moments are known."""

from stillmeant.policies import Policy

TALK = ["mean main in if true", "hear dev main if main quarrel", "mean dev in if main right",
        "mean main out if main quarrel", "mean dev out if true", "hear main dev if true"]
PASSES = ["pass main if true", "pass dev if true", "pass zoo if true"]


def read(*rows):
    return Policy.read("\n".join(rows))


# The words of two branches make 125 moments of their own, and passes never touch words.
TALKS = read("shape main dev 1 1100 newest", *TALK)
# Each order of some of the three branches is a moment: 1 + 3 + 6 + 6.
ORDERS = read("shape main dev zoo 1 1100 newest", *PASSES)
FULL = read("shape main dev zoo 1 1100 newest", *TALK, *PASSES)
OVER = read("shape main dev zoo 1 1100 newest", "drop dev 0 if true", "squash dev main if true",
            "mean main out if true", "merge zoo dev if true", "make dev 0 if true", "squash dev zoo if true",
            "restore main 0 if true", "merge zoo dev if true", "squash main dev if true")
# Two branches speak, and all three hear each other in a ring.
RING = read("shape main dev zoo 1 1100 any", "mean main in if true", "mean dev out if true", "hear main dev if true",
            "hear dev zoo if true", "hear zoo main if true", "mean zoo in if true")
# All merges between three branches, a change that is made everywhere, and words that are said.
CROWDED = read("shape main dev zoo 1 1100 newest", "merge main dev if true", "merge dev main if true",
               "merge main zoo if true", "merge zoo main if true", "merge dev zoo if true", "merge zoo dev if true",
               "make main 0 if true", "make dev 0 if true", "make zoo 0 if true", "mean main out if true",
               "mean dev in if true", "mean zoo out if true")
# The change is made on a branch, merged, picked and dropped.
FLOW = read("shape main dev 1 1100 newest", "make dev 0 if true", "merge main dev if true",
            "pick main dev 0 0 if true", "drop main 0 if true")
