"""Plait: arcs that take colours at crossings."""
