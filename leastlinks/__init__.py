"""Leastlinks: one program from packages in several versions."""
