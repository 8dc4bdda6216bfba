"""Names that hold a worth as long as a body lasts, decided for all runs."""
