"""Machine integers that wrap, asked over all of their values and over very long runs."""
