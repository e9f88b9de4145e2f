package syntax

// sides are the names of the columns to which an expression refers: those of Left, followed by those of Right.
type sides struct {
	left  []string
	right []string
}

// name returns the name of a column, or the empty string if there is no such column.
func (s sides) name(column int) string {
	switch behind := column - len(s.left); {
	case behind < 0:
		return s.left[column]
	case behind < len(s.right):
		return s.right[behind]
	default:
		return ""
	}
}

// isRight reports whether a column is one of Right.
func (s sides) isRight(column int) bool { return column >= len(s.left) }
