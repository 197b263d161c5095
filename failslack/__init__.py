"""Failslack: promises of work that may fail and be done anew."""
