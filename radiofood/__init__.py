"""Promises of food, handed on over a radio that loses."""
