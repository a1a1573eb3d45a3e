"""Likerun: one program, every way of running it, the same run."""
