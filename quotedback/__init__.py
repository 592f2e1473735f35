"""Quotedback: a shell whose scripts are trees, and whose runs are rows of events."""
