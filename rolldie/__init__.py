"""Rolldie: a die rolled from cell to cell of a floor, and how it can come to lie where."""
