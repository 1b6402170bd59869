"""Stayswap: guests whose stays share a day exchange their leaving days."""
