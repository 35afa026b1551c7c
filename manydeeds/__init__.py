"""Manydeeds: one name for several deeds, told by the kinds of all that is handed in."""
