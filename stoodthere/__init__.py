"""Stoodthere: the grammar behind nested sentences."""
