"""Ways between placings, and the bars that stand against them."""
