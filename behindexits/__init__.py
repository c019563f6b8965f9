"""Behindexits: what each way out of a program may trust."""
