"""Wapentake: an assembly whose rulings come about by threes."""
