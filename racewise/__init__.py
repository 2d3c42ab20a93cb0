"""Racewise: what threads did at once, told by order, by locks and by all they could do."""
