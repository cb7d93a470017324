"""Classes with mixins in one order, givens found by search, kinds as parts of things."""
