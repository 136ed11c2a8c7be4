"""Words and bounds."""

KEYWORDS = (
    "fixed", "sum", "less", "by", "pick", "late", "half", "twice",
    "most", "least", "over", "spring", "brook", "out", "beat",
)

# What is taken where nothing else is handed in.
SIZE = 8
MOST_BOXES = 120
WIDE = 24
FIGURES = 8
FINE = 6
MOST_WAYS = 300

# Of programs that are handed in.
LONGEST_NAME = 6
PERIODS = (1, 2, 4, 8, 16)
MOST_SPRINGS = 3
MOST_BROOKS = 8
MOST_OUTS = 3
MOST_PARTS = 60
MOST_DEEP = 8
SHORTEST_WINDOW = 2
LONGEST_WINDOW = 5
MOST_IN_WINDOWS = 16

# Of graphs that are handed in.
MOST_NODES = 100

# Of a program's NUMBERs: how much they're worth, above nought or below, and of how many parts.
MOST_WORTH = 99
FINEST_PARTS = 16

# Of what springs tell: how much it's worth, of how many parts, how many at once; beats of a record.
MOST_TOLD = 999
FINEST_TOLD = 64
MOST_AT_ONCE = 64
MOST_BEATS = 64
