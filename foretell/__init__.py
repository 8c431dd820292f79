"""Foretell: texts told in few bits by foretelling each."""
