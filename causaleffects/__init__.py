"""What told tables tell of the effects of deeds, in causal graphs with hidden common causes."""
