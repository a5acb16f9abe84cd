"""Oneslate: one slate kept by many, changed by many, handed on, lent and ended."""
