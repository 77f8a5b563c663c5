"""Rows of bits whose runs keep told bounds."""
