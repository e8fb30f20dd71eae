"""Warmrows: kinds with several elders, changed while they run, in rows that remember."""
