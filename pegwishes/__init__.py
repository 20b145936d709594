"""Pegwishes: pegs, strings and hoops that keep wishes, exactly."""
