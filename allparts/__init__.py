"""Allparts: one least machine that knows every part of some texts."""
