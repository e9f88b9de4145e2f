package lexer

import (
	"regexp"
	"slices"
	"strconv"
	"strings"
	"testing"

	"erasure/api"
)

func name(s string) api.Token  { return api.Token{Kind: api.TokenName, Text: s} }
func number(n int64) api.Token { return api.Token{Kind: api.TokenNumber, Int: n} }
func text(s string) api.Token  { return api.Token{Kind: api.TokenText, Text: s} }
func sign(s string) api.Token  { return api.Token{Kind: api.TokenSign, Text: s} }

// at returns the token with a position.
func at(pos int, token api.Token) api.Token {
	token.Pos = pos
	return token
}

// signs are all signs of the language.
var signs = strings.Fields("( ) , . ; + - * / = < ++ <=")

// P2.1
func TestIsName(t *testing.T) {
	for _, x := range []struct {
		s    string
		want bool
	}{
		{"", false}, {"a", true}, {"z", true}, {"a0", true}, {"a_", true}, {"z9_az", true}, {"a__", true}, {"not", true},
		{"0", false}, {"9a", false}, {"_", false}, {"_a", false}, {"A", false}, {"aB", false}, {"Ab", false},
		{"a b", false}, {" a", false}, {"a ", false}, {"a\n", false}, {"a.b", false}, {"a-b", false}, {"a#", false}, {"a\x00", false},
		{"\xc3\xa4", false}, {"a\xe4", false}, {"a\u0661", false}, {"\"a\"", false},
	} {
		if got := IsName(x.s); got != x.want {
			t.Errorf("P2.1: IsName(%s) = %v", strconv.Quote(x.s), got)
		}
	}
	for n := 1; n <= api.MaxName+20; n++ {
		if got, want := IsName(strings.Repeat("a", n)), n <= api.MaxName; got != want {
			t.Errorf("P2.1: IsName of %d letters: %v", n, got)
		}
	}
	for n := range 256 {
		b := byte(n)
		first := b >= 'a' && b <= 'z'
		later := first || b >= '0' && b <= '9' || b == '_'
		for s, want := range map[string]bool{string([]byte{b}): first, string([]byte{b, 'a'}): first, string([]byte{'a', b}): later, string([]byte{'a', b, 'a'}): later} {
			if got := IsName(s); got != want {
				t.Errorf("P2.1: IsName(%s) = %v", strconv.Quote(s), got)
			}
		}
	}
}

// P2.2
func TestScan(t *testing.T) {
	for _, x := range []struct {
		src  string
		want []api.Token
	}{
		{"", nil},
		{" \t\r\n", nil},
		{"#", nil},
		{"# A 01 \" \xff", nil},
		{"#\n#\n", nil},
		{"a", []api.Token{at(0, name("a"))}},
		{" a b\tc\rd\ne ", []api.Token{at(1, name("a")), at(3, name("b")), at(5, name("c")), at(7, name("d")), at(9, name("e"))}},
		{"a#b\nc", []api.Token{at(0, name("a")), at(4, name("c"))}},
		{"a#b\rc", []api.Token{at(0, name("a"))}},
		{"a##\n\n#b\n c#", []api.Token{at(0, name("a")), at(9, name("c"))}},
		{"a<=1", []api.Token{at(0, name("a")), at(1, sign("<=")), at(3, number(1))}},
		{"1a", []api.Token{at(0, number(1)), at(1, name("a"))}},
		{"a1 1a1", []api.Token{at(0, name("a1")), at(3, number(1)), at(4, name("a1"))}},
		{"0", []api.Token{at(0, number(0))}},
		{"0 0", []api.Token{at(0, number(0)), at(2, number(0))}},
		{"0a", []api.Token{at(0, number(0)), at(1, name("a"))}},
		{"-0", []api.Token{at(0, sign("-")), at(1, number(0))}},
		{"a-1", []api.Token{at(0, name("a")), at(1, sign("-")), at(2, number(1))}},
		{"10 4294967296", []api.Token{at(0, number(10)), at(3, number(api.MaxNumber))}},
		{`""`, []api.Token{at(0, text(""))}},
		{`"a""b"`, []api.Token{at(0, text("a")), at(3, text("b"))}},
		{`x"a"1`, []api.Token{at(0, name("x")), at(1, text("a")), at(4, number(1))}},
		{`"\22"`, []api.Token{at(0, text("\""))}},
		{`"\5c" "\0a"`, []api.Token{at(0, text("\\")), at(6, text("\n"))}},
		{`"# a"b`, []api.Token{at(0, text("# a")), at(5, name("b"))}},
		{`"A_~!"`, []api.Token{at(0, text("A_~!"))}},
		{`"\ff\00"`, []api.Token{at(0, text("\xff\x00"))}},
		{`"` + strings.Repeat(`\00`, api.MaxText) + `"`, []api.Token{at(0, text(strings.Repeat("\x00", api.MaxText)))}},
		{strings.Repeat("z", api.MaxName), []api.Token{at(0, name(strings.Repeat("z", api.MaxName)))}},
	} {
		got, pos, err := Scan(x.src)
		if !slices.Equal(got, x.want) || pos != 0 || err != api.OK {
			t.Errorf("P2.2: Scan(%s) = %v, %d, %d, want %v", strconv.Quote(x.src), got, pos, err, x.want)
		}
	}
}

// P2.2: signs are as long as possible.
func TestScanSigns(t *testing.T) {
	for _, a := range signs {
		if got, pos, err := Scan(a); !slices.Equal(got, []api.Token{sign(a)}) || pos != 0 || err != api.OK {
			t.Errorf("P2.2: Scan(%s) = %v, %d, %d", a, got, pos, err)
		}
		for _, b := range signs {
			want := []api.Token{sign(a), at(len(a), sign(b))}
			switch {
			case slices.Contains(signs, a+b):
				want = []api.Token{sign(a + b)}
			case a == "+" && b == "++":
				want = []api.Token{sign("++"), at(2, sign("+"))}
			}
			if got, pos, err := Scan(a + b); !slices.Equal(got, want) || pos != 0 || err != api.OK {
				t.Errorf("P2.2: Scan(%s) = %v, %d, %d, want %v", a+b, got, pos, err, want)
			}
		}
	}
}

// P2.2: the errors of a token that is the only one, or the first faulty one.
func TestScanErrors(t *testing.T) {
	longText := strings.Repeat("a", api.MaxText+1)
	for _, x := range []struct {
		src  string
		want api.Errno
	}{
		{"_", api.ErrSyntax}, {"_a", api.ErrSyntax}, {"A", api.ErrSyntax}, {"'", api.ErrSyntax}, {"\\", api.ErrSyntax},
		{">", api.ErrSyntax}, {"!", api.ErrSyntax}, {"&", api.ErrSyntax}, {":", api.ErrSyntax}, {"[", api.ErrSyntax}, {"{", api.ErrSyntax},
		{"\x00", api.ErrSyntax}, {"\v", api.ErrSyntax}, {"\f", api.ErrSyntax}, {"\x7f", api.ErrSyntax}, {"\xff", api.ErrSyntax},
		{"\u00a0", api.ErrSyntax}, {"\u00e4", api.ErrSyntax}, {"\u0661", api.ErrSyntax}, {"\ufeff", api.ErrSyntax},
		{"00", api.ErrSyntax}, {"01", api.ErrSyntax}, {"007", api.ErrSyntax}, {"0" + strings.Repeat("9", 30), api.ErrSyntax}, {"01a", api.ErrSyntax},
		{`"`, api.ErrSyntax}, {`"a`, api.ErrSyntax}, {`"\"`, api.ErrSyntax}, {`"\`, api.ErrSyntax}, {`"\2`, api.ErrSyntax}, {`"\22`, api.ErrSyntax},
		{`"\2"`, api.ErrSyntax}, {`"\2" "`, api.ErrSyntax}, {`"\61"`, api.ErrSyntax}, {`"\0A"`, api.ErrSyntax}, {`"\n"`, api.ErrSyntax},
		{"\"\n\"", api.ErrSyntax}, {"\"\t\"", api.ErrSyntax}, {"\"\x7f\"", api.ErrSyntax}, {"\"\xc3\xa4\"", api.ErrSyntax}, {"\"#\n\"", api.ErrSyntax},
		{`"` + longText, api.ErrSyntax}, {`"` + longText + `\61"`, api.ErrSyntax},
		{"4294967297", api.ErrInvalid}, {"4294967297a", api.ErrInvalid}, {"9223372036854775807", api.ErrInvalid}, {"9223372036854775808", api.ErrInvalid},
		{"18446744073709551616", api.ErrInvalid}, {"1" + strings.Repeat("0", 1000), api.ErrInvalid},
		{strings.Repeat("a", api.MaxName+1), api.ErrInvalid}, {"a" + strings.Repeat("_", api.MaxName), api.ErrInvalid}, {"a" + strings.Repeat("9", 1000), api.ErrInvalid},
		{`"` + longText + `"`, api.ErrInvalid}, {`"` + strings.Repeat(`\00`, api.MaxText+1) + `"`, api.ErrInvalid},
	} {
		before := []string{"", " ", "a ", "0", "1 + ", "# \"\n", `"a"`, ") "}
		after := []string{"", " A", "\n01", " 4294967297", " # A"}
		if strings.Count(x.src, `"`) == 1 {
			after = after[:1] // what comes after an open text may close it
		}
		for _, b := range before {
			if b == "0" && x.src[0] >= '0' && x.src[0] <= '9' {
				continue
			}
			for _, a := range after {
				got, pos, err := Scan(b + x.src + a)
				if len(got) != 0 || pos != len(b) || err != x.want {
					t.Errorf("P2.2: Scan(%s) = %v, %d, %d, want error %d at %d", strconv.Quote(b+x.src+a), got, pos, err, x.want, len(b))
				}
			}
		}
	}
}

// P2.2: the bytes with which tokens, comments and white space begin.
func TestScanFirstBytes(t *testing.T) {
	const firsts = " \t\r\n#abcdefghijklmnopqrstuvwxyz0123456789(),.;+-*/=<"
	for n := range 256 {
		src := "a " + string([]byte{byte(n)})
		got, pos, err := Scan(src)
		if strings.IndexByte(firsts, byte(n)) >= 0 {
			if len(got) == 0 || pos != 0 || err != api.OK {
				t.Errorf("P2.2: Scan(%s) = %v, %d, %d", strconv.Quote(src), got, pos, err)
			}
		} else if len(got) != 0 || pos != 2 || err != api.ErrSyntax {
			t.Errorf("P2.2: Scan(%s) = %v, %d, %d, want ErrSyntax at 2", strconv.Quote(src), got, pos, err)
		}
	}
}

// P2.2
func TestScanMaxSource(t *testing.T) {
	for _, begin := range []string{"", "a", "A", "01"} {
		src := begin + strings.Repeat(" ", api.MaxSource+1-len(begin))
		if got, pos, err := Scan(src); len(got) != 0 || pos != 0 || err != api.ErrFull {
			t.Errorf("P2.2: Scan of %d bytes that begin with %q: %v, %d, %d", len(src), begin, got, pos, err)
		}
	}
	long := strings.Repeat(" ", api.MaxSource-1)
	if got, pos, err := Scan(long + "a"); !slices.Equal(got, []api.Token{at(api.MaxSource-1, name("a"))}) || pos != 0 || err != api.OK {
		t.Errorf("P2.2: Scan of MaxSource bytes: %v, %d, %d", got, pos, err)
	}
	if got, pos, err := Scan(long + "A"); len(got) != 0 || pos != api.MaxSource-1 || err != api.ErrSyntax {
		t.Errorf("P2.2: Scan of MaxSource bytes with a fault at the end: %v, %d, %d", got, pos, err)
	}
	for _, full := range []string{strings.Repeat("a", api.MaxSource), strings.Repeat("9", api.MaxSource), `"` + strings.Repeat("a", api.MaxSource-2) + `"`} {
		if got, pos, err := Scan(full); len(got) != 0 || pos != 0 || err != api.ErrInvalid {
			t.Errorf("P2.2: Scan of a token of MaxSource bytes: %v, %d, %d", got, pos, err)
		}
	}
}

// P2.2: ErrFull is the last error of a token, and only a token gives it.
func TestScanMaxTokens(t *testing.T) {
	full := strings.Repeat("a ", api.MaxTokens)
	for _, after := range []string{"", " ", "#", "# a 01 \"\n\t\r"} {
		if got, pos, err := Scan(full + after); len(got) != api.MaxTokens || pos != 0 || err != api.OK {
			t.Errorf("P2.2: Scan of MaxTokens tokens and %q: %d tokens, %d, %d", after, len(got), pos, err)
		}
	}
	for _, x := range []struct {
		after string
		want  api.Errno
	}{
		{"a", api.ErrFull}, {"0", api.ErrFull}, {`""`, api.ErrFull}, {";", api.ErrFull}, {"a A", api.ErrFull}, {"+ + 01", api.ErrFull},
		{"A", api.ErrSyntax}, {"01", api.ErrSyntax}, {`"`, api.ErrSyntax},
		{strings.Repeat("a", api.MaxName+1), api.ErrInvalid}, {"4294967297", api.ErrInvalid}, {`"` + strings.Repeat("a", api.MaxText+1) + `"`, api.ErrInvalid},
	} {
		for _, between := range []string{"", "  ", "#a\n"} {
			got, pos, err := Scan(full + between + x.after)
			if len(got) != 0 || pos != len(full+between) || err != x.want {
				t.Errorf("P2.2: Scan of MaxTokens tokens and %q: %d tokens, %d, %d, want error %d", between+x.after, len(got), pos, err, x.want)
			}
		}
	}
	if got, pos, err := Scan("A " + full + "a"); len(got) != 0 || pos != 0 || err != api.ErrSyntax {
		t.Errorf("P2.2: Scan of a fault before too many tokens: %d tokens, %d, %d", len(got), pos, err)
	}
}

// forms are the forms of white space and comments, and of the kinds of tokens, by their numbers.
var forms = []*regexp.Regexp{
	regexp.MustCompile(`^(?:[ \t\r\n]|#[^\n]*)`),
	regexp.MustCompile(`^[a-z][a-z0-9_]*`),
	regexp.MustCompile(`^[0-9]+`),
	regexp.MustCompile(`^"(?:[ !#-\[\]-~]|\\(?:[01][0-9a-f]|22|5c|7f|[89a-f][0-9a-f]))*"`),
	regexp.MustCompile(`^(?:\+\+|<=|[(),.;+\-*/=<])`),
}

// scanByForms returns the kinds and texts of the tokens of a short source, and the offset of the first one that is faulty, or -1.
func scanByForms(src string) ([]string, int) {
	var tokens []string
	for pos := 0; pos < len(src); {
		kind, found := -1, ""
		for k, form := range forms {
			if m := form.FindString(src[pos:]); m != "" {
				kind, found = k, m
			}
		}
		if kind < 0 || kind == api.TokenNumber && len(found) > 1 && found[0] == '0' {
			return nil, pos
		}
		if kind > 0 {
			tokens = append(tokens, strconv.Itoa(kind)+found+strconv.Itoa(pos))
		}
		pos += len(found)
	}
	return tokens, -1
}

// P2.2, and the consequence that offsets ascend and tokens do not overlap: all short sources over some letters.
func TestScanShortSources(t *testing.T) {
	for src := range words("a0_ \n#\"\\2+<=A", 5) {
		want, fault := scanByForms(src)
		got, pos, err := Scan(src)
		if fault >= 0 {
			if len(got) != 0 || pos != fault || err != api.ErrSyntax {
				t.Fatalf("P2.2: Scan(%s) = %v, %d, %d, want ErrSyntax at %d", strconv.Quote(src), got, pos, err, fault)
			}
			continue
		}
		var texts []string
		for _, token := range got {
			texts = append(texts, strconv.Itoa(token.Kind)+Join([]api.Token{token})+strconv.Itoa(token.Pos))
		}
		if !slices.Equal(texts, want) || pos != 0 || err != api.OK {
			t.Fatalf("P2.2: Scan(%s) = %v, %d, %d, want %v", strconv.Quote(src), got, pos, err, want)
		}
	}
}

// words yields all words of at most the given length over the letters.
func words(letters string, length int) func(yield func(string) bool) {
	return func(yield func(string) bool) {
		level := []string{""}
		for range length + 1 {
			var next []string
			for _, word := range level {
				if !yield(word) {
					return
				}
				for i := range len(letters) {
					next = append(next, word+letters[i:i+1])
				}
			}
			level = next
		}
	}
}
