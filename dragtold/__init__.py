"""Dragtold: listeners of drag events that are right in every history."""
