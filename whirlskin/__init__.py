"""Whirlskin: vanes on skins sewn of squares."""
