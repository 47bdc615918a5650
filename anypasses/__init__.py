"""Anypasses: an optimiser whose every step is judged, for modules in single assignment."""
