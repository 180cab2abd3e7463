"""A carrier's round: the least walk, points in its order, forwarding by days."""
