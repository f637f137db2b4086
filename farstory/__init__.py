"""Farstory: what is surely so aboard a probe far away."""
