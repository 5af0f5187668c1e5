"""Signedpacts: pacts of several parties, and what holds in every play of them."""
