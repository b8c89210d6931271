"""Gates of a fund: more is asked back than may go."""
