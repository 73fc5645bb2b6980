"""Plans over fractions, notes on what holds in them, and papers that show it."""
