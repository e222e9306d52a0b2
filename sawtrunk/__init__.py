"""Sawtrunk: trunks sawn into boards."""
