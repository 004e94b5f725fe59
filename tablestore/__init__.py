"""Tablestore: tables, questions, dealings, and a log."""
