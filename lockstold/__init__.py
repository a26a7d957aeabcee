"""Lockstold: which told answers of a package chooser can come from one shelf of releases."""
