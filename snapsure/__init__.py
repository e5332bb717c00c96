"""Snapsure: dealings side by side under snapshots, and books of them that are sure."""
