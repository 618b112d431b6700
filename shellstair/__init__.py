"""Shellstair: shells carried on a stair until they lie still."""
