"""Points on two banks joined by ropes: the most pairs, the fewest points, and what shows it."""
