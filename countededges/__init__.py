"""countededges: which counts of a program's ways can be told from some counters, for all runs."""
