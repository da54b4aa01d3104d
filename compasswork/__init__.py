"""Compasswork: formulas with square roots, drawn with straightedge and compass."""
