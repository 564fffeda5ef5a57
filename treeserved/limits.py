"""The numbers that limit what the program is asked."""

# The most nodes of a tree.
NODES = 12

# The greatest weight of a node and the greatest length of an edge.
GREAT = 999

# The most characters of a name.
LETTERS = 8

# The most groups of a family.
GROUPS = 12

# The most names of a table.
TABLE = 7

# The greatest distance in the pairs that a table is made of.
FAR = 20000

# The greatest number of a node in a load.
LOAD = 999
