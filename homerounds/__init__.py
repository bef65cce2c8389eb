"""Machines, words, rows of states, and what is told of their turnings."""
