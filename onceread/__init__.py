"""Questions about linked things, answered with papers that are read once."""
