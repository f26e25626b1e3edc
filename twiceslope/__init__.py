"""Twiceslope: which equations y'' = r y have answers in finite terms."""
