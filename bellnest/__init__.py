"""Bellnest: what bells can do to a row of deeds, told of all ringings at once."""
