"""Plans: starts that fit, within the units of a machine."""
