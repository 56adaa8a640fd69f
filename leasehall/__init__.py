"""Leasehall: a distributed cache whose reads say how fresh they are."""
