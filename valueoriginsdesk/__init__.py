"""Small programs, their runs, and where the values in a run come from."""
