"""Programs over trees, and where their cells are held, let go and used anew."""
