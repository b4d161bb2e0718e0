"""What counts at doors and roads give away."""
