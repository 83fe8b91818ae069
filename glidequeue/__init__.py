"""Glidequeue plans the moves of a machine, cuts them to steps, holds them and lets them go on."""
