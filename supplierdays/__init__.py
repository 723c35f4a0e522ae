"""Who supplies whom: one supplier for each point of delivery on each day."""
