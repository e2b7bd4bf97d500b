"""Plants turned down on a tree of feeders."""
