package syntax

import (
	"slices"
	"strings"
	"testing"

	"erasure/api"
	"erasure/expr"
)

// The columns of the expressions of these tests. A right column has a name of a left one.
func leftNames() []string {
	return []string{"a", "b", "not", "left", "right", "length", "or", "b", "from"}
}
func rightNames() []string { return []string{"b", "c", "not", "X", "c"} }

// shownNames are the names of leftNames, and those of rightNames with a capital letter.
func shownNames() []string {
	return []string{"a", "b", "not", "left", "right", "length", "or", "b2", "from", "B", "C", "NOT", "X", "C2"}
}

// checkExpr checks that ParseExpr returns the expression that expr.Format shows like this.
func checkExpr(t *testing.T, src, want string) {
	t.Helper()
	e, at, errno := ParseExpr(src, leftNames(), rightNames())
	if got := expr.Format(e, shownNames()); got != want || at != 0 || errno != api.OK {
		t.Errorf("P5.3: ParseExpr(%q) is %s, %d, %d, want %s", src, got, at, errno, want)
	}
}

// checkExprError checks that ParseExpr returns an error at the mark.
func checkExprError(t *testing.T, marked string, want api.Errno) {
	t.Helper()
	src, at := unmark(marked)
	e, gotAt, errno := ParseExpr(src, leftNames(), rightNames())
	if len(e) != 0 || gotAt != at || errno != want {
		t.Errorf("P5.3: ParseExpr(%q) = %v, %d, %d, want %d, %d", src, e, gotAt, errno, at, want)
	}
}

// P5.3: atoms, and what their names mean.
func TestParseAtom(t *testing.T) {
	for src, want := range map[string]string{
		"0":                           "0",
		"4294967296":                  "4294967296",
		"- 4294967296":                "-4294967296",
		"-0":                          "0",
		`"a\22\00"`:                   `"a\22\00"`,
		`""`:                          `""`,
		`"or"`:                        `"or"`,
		"a":                           "a",
		"b":                           "b",
		" # a\n b # c":                "b",
		"(((a)))":                     "a",
		"left.a":                      "a",
		"left . not":                  "not",
		"right.b":                     "B",
		"right.c":                     "C",
		"right.not":                   "NOT",
		"left":                        "left",
		"left.left":                   "left",
		"left.right":                  "right",
		"right":                       "right",
		"length":                      "length",
		"left.length":                 "length",
		"length(length)":              "length(length)",
		"isnull(right)":               "isnull(right)",
		"prefix(a, 1)":                "prefix(a, 1)",
		"coalesce(left, right.c)":     "coalesce(left, C)",
		"if(a, b or a, length(b))":    "if(a, or(b, a), length(b))",
		"if(1,if(2,3,4),if(5,6,7))":   "if(1, if(2, 3, 4), if(5, 6, 7))",
		"prefix(prefix(a, (1)), -1)":  "prefix(prefix(a, 1), -1)",
		"coalesce((a) or b, not a)":   "coalesce(or(a, b), not(a))",
		"or":                          "or",
		"or or or":                    "or(or, or)",
		"from":                        "from",
		"left + left.left < right":    "less(add(left, left), right)",
		"right.b = right.c - right":   "equal(B, subtract(C, right))",
		"(left) + (right) * (length)": "add(left, multiply(right, length))",
	} {
		checkExpr(t, src, want)
	}
}

// P5.3: operators, and how they are grouped.
func TestParseOperators(t *testing.T) {
	for src, want := range map[string]string{
		"- 1 + a * 2 <= right.b":   "not(less(B, add(-1, multiply(a, 2))))", // the example of the chapter
		"a or b":                   "or(a, b)",
		"a and b":                  "and(a, b)",
		"a = b":                    "equal(a, b)",
		"a < b":                    "less(a, b)",
		"a <= b":                   "not(less(b, a))",
		"a + b":                    "add(a, b)",
		"a - b":                    "subtract(a, b)",
		"a ++ b":                   "concat(a, b)",
		"a * b":                    "multiply(a, b)",
		"a / b":                    "divide(a, b)",
		"- a":                      "negate(a)",
		"not a":                    "not(a)",
		"a or b or 1":              "or(or(a, b), 1)",
		"a or (b or 1)":            "or(a, or(b, 1))",
		"a and b and 1":            "and(and(a, b), 1)",
		"a + b - 1 ++ 2":           "concat(subtract(add(a, b), 1), 2)",
		"a * b / 2 * 3":            "multiply(divide(multiply(a, b), 2), 3)",
		"a or b and 1 = 2 + 3 * 4": "or(a, and(b, equal(1, add(2, multiply(3, 4)))))",
		"1 * 2 + 3 < 4 and 5 or 6": "or(and(less(add(multiply(1, 2), 3), 4), 5), 6)",
		"a and b or a and 1":       "or(and(a, b), and(a, 1))",
		"(a or b) and 1":           "and(or(a, b), 1)",
		"(a = b) = 1":              "equal(equal(a, b), 1)",
		"a < b and b <= 1":         "and(less(a, b), not(less(1, b)))",
		"a - 1":                    "subtract(a, 1)",
		"a - -1":                   "subtract(a, -1)",
		"a - - - 1":                "subtract(a, negate(-1))",
		"-(5)":                     "negate(5)",
		"- -5":                     "negate(-5)",
		"- - a":                    "negate(negate(a))",
		"-(-(5))":                  "negate(negate(5))",
		"- 1 * 2":                  "multiply(-1, 2)",
		"- a * b":                  "multiply(negate(a), b)",
		`- "a"`:                    `negate("a")`,
		"not a = b":                "equal(not(a), b)",
		"not (a = b)":              "not(equal(a, b))",
		"not not - not a":          "not(not(negate(not(a))))",
		"not - 1":                  "not(-1)",
		"not left.not":             "not(not)",
		"a * not b":                "multiply(a, not(b))",
		"- length(a) + 1":          "add(negate(length(a)), 1)",
		"a + b <= 1 - 2":           "not(less(subtract(1, 2), add(a, b)))",
		"(a <= b) <= 1":            "not(less(1, not(less(b, a))))",
		"a<=b":                     "not(less(b, a))",
		"a++b":                     "concat(a, b)",
		"a*-1":                     "multiply(a, -1)",
	} {
		checkExpr(t, src, want)
	}
}

// P5.3: an expression need not be valid.
func TestParseLargeExpr(t *testing.T) {
	sum := "a" + strings.Repeat("+a", api.MaxTokens/2-1)
	e, at, errno := ParseExpr(sum, leftNames(), nil)
	want := slices.Concat(slices.Repeat(op(api.OpAdd), api.MaxTokens/2-1), slices.Repeat(col(0), api.MaxTokens/2))
	if !slices.Equal(e, want) || at != 0 || errno != api.OK {
		t.Errorf("P5.3: the sum of %d columns has %d terms, %d, %d", api.MaxTokens/2, len(e), at, errno)
	}
	for sign, operator := range map[string]int{"-": api.OpNegate, "not ": api.OpNot} {
		e, at, errno = ParseExpr(strings.Repeat(sign, api.MaxTokens-1)+"right", nil, []string{"b"})
		if len(e) != 0 || at != len(sign)*(api.MaxTokens-1) || errno != api.ErrName {
			t.Errorf("P5.3: %q of an unknown column gives %d, %d", sign, at, errno)
		}
		e, at, errno = ParseExpr(strings.Repeat(sign, api.MaxTokens-1)+"a", leftNames(), nil)
		want := slices.Concat(slices.Repeat(op(operator), api.MaxTokens-1), col(0))
		if !slices.Equal(e, want) || at != 0 || errno != api.OK {
			t.Errorf("P5.3: many %q have %d terms, %d, %d", sign, len(e), at, errno)
		}
	}
	e, _, errno = ParseExpr(strings.Repeat("(", 2047)+"7"+strings.Repeat(")", 2047), nil, nil)
	if !slices.Equal(e, n(7)) || errno != api.OK {
		t.Errorf("P5.3: a number in many parentheses is %v, %d", e, errno)
	}
	_, at, errno = ParseExpr(strings.Repeat("if(", 1365), nil, nil)
	if at != 3*1365 || errno != api.ErrSyntax {
		t.Errorf("P5.3: many beginnings of functions give %d, %d", at, errno)
	}
}

// P5.3: the order of the errors, and their offsets.
func TestParseExprErrors(t *testing.T) {
	for marked, want := range map[string]api.Errno{
		"zz + ) ^01":                               api.ErrSyntax,
		"zz + ) ^" + strings.Repeat("x", 17):       api.ErrInvalid,
		"^" + strings.Repeat(" ", api.MaxSource+1): api.ErrFull,
		strings.Repeat("-", api.MaxTokens) + "^-":  api.ErrFull,
		"zz + ^)":                       api.ErrSyntax,
		"zz ^yy":                        api.ErrSyntax,
		"^":                             api.ErrSyntax,
		" # a\n^":                       api.ErrSyntax,
		"a = b ^= 1":                    api.ErrSyntax,
		"a < b ^<= 1":                   api.ErrSyntax,
		"not ^= 1":                      api.ErrSyntax,
		"not ^":                         api.ErrSyntax,
		"a ^not b":                      api.ErrSyntax,
		"left . ^1":                     api.ErrSyntax,
		"right . left ^. a":             api.ErrSyntax,
		"left . right ^. a":             api.ErrSyntax,
		"left . left ^. a":              api.ErrSyntax,
		"(left) ^. a":                   api.ErrSyntax,
		"a ^. b":                        api.ErrSyntax,
		"a ^(1)":                        api.ErrSyntax,
		"left ^(1)":                     api.ErrSyntax,
		"left.length ^(1)":              api.ErrSyntax,
		"length(^)":                     api.ErrSyntax,
		"length(a^, b)":                 api.ErrSyntax,
		"prefix(a^)":                    api.ErrSyntax,
		"if(a, b^)":                     api.ErrSyntax,
		"if(a, b, 1^, 2)":               api.ErrSyntax,
		"a ^;":                          api.ErrSyntax,
		`"a" ^"b"`:                      api.ErrSyntax,
		`a ^"or" b`:                     api.ErrSyntax,
		"a ^, b":                        api.ErrSyntax,
		"a + ^+ b":                      api.ErrSyntax,
		"(a + b ^":                      api.ErrSyntax,
		"a^)":                           api.ErrSyntax,
		"^zz + yy":                      api.ErrName,
		"^zz <= yy":                     api.ErrName,
		"a <= ^yy":                      api.ErrName,
		"a <= b + (1 <= yy) * zz ^<= 2": api.ErrSyntax,
		"a <= b + (1 <= ^yy) * zz":      api.ErrName,
		"a + ^c":                        api.ErrName,
		"left . ^c":                     api.ErrName,
		"right . ^a + zz":               api.ErrName,
		"right.b + right.^right":        api.ErrName,
		"^prefix + prefix(a, b)":        api.ErrName,
		"^if":                           api.ErrName,
		"if(a, b, ^if)":                 api.ErrName,
		"^and and and":                  api.ErrName,
	} {
		checkExprError(t, marked, want)
	}
}

// P5.3: names of columns that are no names, and lists of columns that are empty.
func TestParseExprNames(t *testing.T) {
	for _, x := range []struct {
		left, right []string
		src         string
		want        int
	}{
		{nil, []string{"a"}, "right.a", 0},
		{[]string{"", "A", "a b", "a"}, []string{"b"}, "a", 3},
		{[]string{"", "A", "a b", "a"}, []string{"b"}, "right.b", 4},
		{[]string{"a", "a"}, []string{"a", "a"}, "a", 0},
		{[]string{"a", "a"}, []string{"a", "a"}, "right.a", 2},
		{slices.Repeat([]string{"a"}, 100), []string{"b", "a"}, "right.a", 101},
	} {
		e, at, errno := ParseExpr(x.src, x.left, x.right)
		if !slices.Equal(e, col(x.want)) || at != 0 || errno != api.OK {
			t.Errorf("P5.3: ParseExpr(%q, %q, %q) = %v, %d, %d", x.src, x.left, x.right, e, at, errno)
		}
	}
	for _, names := range [][]string{nil, {}, {""}, {"A"}, {"left.a"}} {
		if e, at, errno := ParseExpr(" a", names, names); len(e) != 0 || at != 1 || errno != api.ErrName {
			t.Errorf("P5.3: ParseExpr with the columns %q = %v, %d, %d", names, e, at, errno)
		}
	}
}

// P5.4: the text of expressions.
func TestFormatExpr(t *testing.T) {
	a, b, not, c := col(0), col(1), col(2), col(10)
	sum := op(api.OpAdd, a, n(1))
	for _, x := range []struct {
		e    []api.Term
		want string
	}{
		{n(0), "0"}, {n(api.MaxNumber), "4294967296"}, {n(-1), "- 1"}, {n(-api.MaxNumber), "- 4294967296"},
		{s(""), `""`}, {s("a\"\n"), `"a\22\0a"`}, {s(strings.Repeat("x", api.MaxText)), `"` + strings.Repeat("x", api.MaxText) + `"`},
		{a, "a"}, {not, "left . not"}, {col(3), "left"}, {col(4), "right"}, {col(5), "length"}, {col(7), "b"},
		{col(9), "right . b"}, {c, "right . c"}, {col(11), "right . not"}, {col(13), "right . c"},
		{op(api.OpNegate, a), "- a"}, {op(api.OpNegate, n(5)), "- ( 5 )"}, {op(api.OpNegate, n(0)), "- ( 0 )"}, {op(api.OpNegate, n(-5)), "- ( - 5 )"},
		{op(api.OpNegate, s("5")), `- "5"`}, {op(api.OpNegate, op(api.OpNegate, a)), "- ( - a )"}, {op(api.OpNegate, not), "- left . not"},
		{op(api.OpNegate, op(api.OpLength, a)), "- length ( a )"}, {op(api.OpNegate, sum), "- ( a + 1 )"},
		{op(api.OpNot, a), "not a"}, {op(api.OpNot, n(5)), "not 5"}, {op(api.OpNot, n(-5)), "not ( - 5 )"}, {op(api.OpNot, op(api.OpNot, a)), "not ( not a )"},
		{op(api.OpNot, not), "not left . not"}, {op(api.OpNot, op(api.OpIsNull, a)), "not isnull ( a )"},
		{op(api.OpNot, op(api.OpLess, a, n(1))), "not ( a < 1 )"},
		{op(api.OpAdd, a, b), "a + b"}, {op(api.OpSubtract, n(1), n(2)), "1 - 2"}, {op(api.OpMultiply, a, n(-2)), "a * ( - 2 )"}, {op(api.OpDivide, n(-2), a), "( - 2 ) / a"},
		{op(api.OpConcat, s("a"), c), `"a" ++ right . c`}, {op(api.OpEqual, sum, sum), "( a + 1 ) = ( a + 1 )"}, {op(api.OpLess, s("b"), a), `"b" < a`},
		{op(api.OpAnd, a, op(api.OpOr, b, n(1))), "a and ( b or 1 )"}, {op(api.OpOr, op(api.OpAnd, b, n(1)), a), "( b and 1 ) or a"},
		{op(api.OpAdd, sum, n(2)), "( a + 1 ) + 2"}, {op(api.OpAdd, n(2), sum), "2 + ( a + 1 )"}, {op(api.OpAdd, op(api.OpNot, a), op(api.OpNegate, a)), "( not a ) + ( - a )"},
		{op(api.OpLength, n(-1)), "length ( - 1 )"}, {op(api.OpIsNull, sum), "isnull ( a + 1 )"}, {op(api.OpPrefix, op(api.OpNot, a), op(api.OpNegate, n(1))), "prefix ( not a , - ( 1 ) )"},
		{op(api.OpCoalesce, op(api.OpOr, a, sum), not), "coalesce ( a or ( a + 1 ) , left . not )"},
		{op(api.OpIf, n(-1), op(api.OpIf, a, b, c), op(api.OpLess, a, b)), "if ( - 1 , if ( a , b , right . c ) , a < b )"},
	} {
		if got := FormatExpr(x.e, leftNames(), rightNames()); got != x.want {
			t.Errorf("P5.4: FormatExpr = %q, want %q", got, x.want)
		}
	}
}

// P5.4: expressions that have no text.
func TestFormatExprInvalid(t *testing.T) {
	deep := slices.Concat(slices.Repeat(op(api.OpNot), api.MaxNest), col(0))
	for i, e := range [][]api.Term{
		nil, {}, op(api.OpAdd, col(0)), op(api.OpNot, col(0), col(0)), deep, n(api.MaxNumber + 1), {{Op: api.OpConst}}, {{Op: 99}}, {{}}, {{Op: -1}}, col(-1), col(-1 << 63), s(strings.Repeat("x", api.MaxText+1)),
		col(14), col(1<<63 - 1), op(api.OpAdd, col(0), col(14)), // no element
		col(12), op(api.OpOr, col(0), col(12)), // not a name
	} {
		if got := FormatExpr(e, leftNames(), rightNames()); got != "" {
			t.Errorf("P5.4: case %d: FormatExpr = %q", i, got)
		}
	}
	if got := FormatExpr(deep[1:], leftNames(), rightNames()); got == "" {
		t.Error("P5.4: FormatExpr of a deep valid expression is empty")
	}
	for _, name := range []string{"", "A", "a b", "1", "_a", "a-b", "left.a", strings.Repeat("x", api.MaxName+1)} {
		if got := FormatExpr(col(0), []string{name}, nil) + FormatExpr(col(1), []string{"a"}, []string{name}); got != "" {
			t.Errorf("P5.4: FormatExpr with the name %q = %q", name, got)
		}
		if got := FormatExpr(col(1), []string{name, "a"}, []string{name}); got != "a" {
			t.Errorf("P5.4: FormatExpr = %q beside a column with the name %q", got, name)
		}
	}
	if got := FormatExpr(n(1), nil, nil); got != "1" {
		t.Errorf("P5.4: FormatExpr without columns = %q", got)
	}
	if got := FormatExpr(col(0), nil, []string{"not"}); got != "right . not" {
		t.Errorf("P5.4: FormatExpr with a right column only = %q", got)
	}
}
