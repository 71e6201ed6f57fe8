"""Anewhall: asks found as they run, and only what must be run anew."""
