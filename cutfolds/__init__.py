"""Folds that are cut: which ways of folding a row of values agree."""
