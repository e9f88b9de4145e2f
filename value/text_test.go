package value

import (
	"strconv"
	"strings"
	"testing"

	"erasure/api"
)

// P1.3
func TestFormat(t *testing.T) {
	for _, x := range []struct {
		v    api.Value
		want string
	}{
		{api.Value{}, "null"},
		{integer(0), "0"},
		{integer(7), "7"},
		{integer(-10), "-10"},
		{integer(api.MaxNumber), "4294967296"},
		{integer(-api.MaxNumber), "-4294967296"},
		{text(""), `""`},
		{text("a\"\n"), `"a\22\0a"`},
		{text("null"), `"null"`},
		{text("\x00\x1f !~\x7f\x80\xff"), `"\00\1f !~\7f\80\ff"`},
		{text(`\'`), `"\5c'"`},
		{text("\xc3\xa4"), `"\c3\a4"`},
	} {
		if got := Format(x.v); got != x.want {
			t.Errorf("P1.3: Format(%v) = %s, want %s", x.v, got, x.want)
		}
	}
	for _, v := range broken() {
		if got := Format(v); got != "null" {
			t.Errorf("P1.3: Format(%v) = %s, want null", v, got)
		}
	}
}

// P1.3, and the consequence that Parse(Format(v)) is Clean(v).
func TestParseInvertsFormat(t *testing.T) {
	values := append(ascending(), broken()...)
	for b := range 256 {
		values = append(values, text(string([]byte{byte(b)})), text(string([]byte{'a', byte(b), 'f'})))
	}
	for _, v := range values {
		if got, err := Parse(Format(v)); got != Clean(v) || err != api.OK {
			t.Errorf("P1.3: Parse(%s) = %v, %d, want %v", Format(v), got, err, Clean(v))
		}
	}
}

// P1.3
func TestParseErrors(t *testing.T) {
	long := strings.Repeat("a", api.MaxText+1)
	for _, x := range []struct {
		s    string
		want api.Errno
	}{
		{"", api.ErrSyntax},
		{"nul", api.ErrSyntax},
		{"nulll", api.ErrSyntax},
		{"Null", api.ErrSyntax},
		{" null", api.ErrSyntax},
		{"-", api.ErrSyntax},
		{"--1", api.ErrSyntax},
		{"-0", api.ErrSyntax},
		{"-00", api.ErrSyntax},
		{"-01", api.ErrSyntax},
		{"00", api.ErrSyntax},
		{"007", api.ErrSyntax},
		{"+1", api.ErrSyntax},
		{"1_0", api.ErrSyntax},
		{"1.0", api.ErrSyntax},
		{"1e3", api.ErrSyntax},
		{"0x1", api.ErrSyntax},
		{"1 ", api.ErrSyntax},
		{"\u0661", api.ErrSyntax},
		{strings.Repeat("9", 100) + "x", api.ErrSyntax},
		{"0" + strings.Repeat("9", 100), api.ErrSyntax},
		{`"`, api.ErrSyntax},
		{`"a`, api.ErrSyntax},
		{`a"`, api.ErrSyntax},
		{`""a`, api.ErrSyntax},
		{`"""`, api.ErrSyntax},
		{`"\"`, api.ErrSyntax},
		{`"\2"`, api.ErrSyntax},
		{`"\220`, api.ErrSyntax},
		{`"\61"`, api.ErrSyntax},
		{`"\20"`, api.ErrSyntax},
		{`"\7e"`, api.ErrSyntax},
		{`"\0A"`, api.ErrSyntax},
		{`"\g0"`, api.ErrSyntax},
		{`"\0g"`, api.ErrSyntax},
		{`"\\"`, api.ErrSyntax},
		{`"\n"`, api.ErrSyntax},
		{"\"\x1f\"", api.ErrSyntax},
		{"\"\x7f\"", api.ErrSyntax},
		{"\"\xff\"", api.ErrSyntax},
		{`"` + long, api.ErrSyntax},
		{`"` + long + "\n\"", api.ErrSyntax},
		{`"` + long + `\61"`, api.ErrSyntax},
		{"4294967297", api.ErrInvalid},
		{"-4294967297", api.ErrInvalid},
		{"9223372036854775807", api.ErrInvalid},
		{"9223372036854775808", api.ErrInvalid},
		{"-9223372036854775808", api.ErrInvalid},
		{"-9223372036854775809", api.ErrInvalid},
		{"18446744073709551616", api.ErrInvalid},
		{strings.Repeat("9", 1000), api.ErrInvalid},
		{"-1" + strings.Repeat("0", 1000), api.ErrInvalid},
		{`"` + long + `"`, api.ErrInvalid},
		{`"` + strings.Repeat(`\00`, api.MaxText+1) + `"`, api.ErrInvalid},
	} {
		if v, err := Parse(x.s); v != (api.Value{}) || err != x.want {
			t.Errorf("P1.3: Parse(%s) = %v, %d, want error %d", strconv.Quote(x.s), v, err, x.want)
		}
	}
}

// P1.3: a value has one text form, so that Parse accepts no other.
func TestParseAcceptsOnlyTextForms(t *testing.T) {
	for s := range strings.SplitSeq(words("\"\\-0129afA\n", 5), " ") {
		v, err := Parse(s)
		if err == api.OK && (!Valid(v) || Format(v) != s) {
			t.Errorf("P1.3: Parse(%s) = %v, whose text form is %s", strconv.Quote(s), v, Format(v))
		}
		if err != api.OK && (err != api.ErrSyntax || v != (api.Value{})) {
			t.Errorf("P1.3: Parse(%s) = %v, %d", strconv.Quote(s), v, err)
		}
	}
}

// words returns all words of at most the given length over the letters, which contain no space, separated by spaces.
func words(letters string, length int) string {
	var all []string
	level := []string{""}
	for range length {
		all = append(all, level...)
		var next []string
		for _, word := range level {
			for i := range len(letters) {
				next = append(next, word+letters[i:i+1])
			}
		}
		level = next
	}
	return strings.Join(append(all, level...), " ")
}
