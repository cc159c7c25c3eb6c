"""Onecurve: the one curve through told points."""
