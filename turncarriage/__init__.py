"""Multiplication on a calculating machine with a shifting carriage."""
