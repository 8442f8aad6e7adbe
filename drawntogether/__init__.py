"""Proof structures and nets: read, written, switched and drawn together."""
