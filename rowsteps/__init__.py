"""Rowsteps: what powers of row steps make."""
