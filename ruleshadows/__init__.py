"""Rule books of two-letter rules, their shadows, and when both fit."""
