package lexer

import (
	"slices"
	"strconv"
	"strings"
	"testing"

	"erasure/api"
)

// P2.3
func TestJoin(t *testing.T) {
	for _, x := range []struct {
		tokens []api.Token
		want   string
	}{
		{nil, ""},
		{[]api.Token{}, ""},
		{[]api.Token{name("a")}, "a"},
		{[]api.Token{name("a"), name("b0_")}, "a b0_"},
		{[]api.Token{name(strings.Repeat("a", api.MaxName))}, strings.Repeat("a", api.MaxName)},
		{[]api.Token{number(0), number(12), number(api.MaxNumber)}, "0 12 4294967296"},
		{[]api.Token{text(""), text("a b"), text("\"\\\n\x00\xff~")}, `"" "a b" "\22\5c\0a\00\ff~"`},
		{[]api.Token{text(strings.Repeat("\"", api.MaxText))}, `"` + strings.Repeat(`\22`, api.MaxText) + `"`},
		{[]api.Token{sign("+"), sign("+"), sign("<"), sign("=")}, "+ + < ="},
		{[]api.Token{name("a"), sign("<="), number(1)}, "a <= 1"},
		{[]api.Token{at(9, name("b")), at(5, name("a")), at(-1, name("a"))}, "b a a"},
		{[]api.Token{{Kind: api.TokenName, Text: "a", Int: 1}, {Kind: api.TokenNumber, Text: "A", Int: 1}, {Kind: api.TokenText, Text: "a", Int: -1}, {Kind: api.TokenSign, Text: "+", Int: 7}}, `a 1 "a" +`},
	} {
		if got := Join(x.tokens); got != x.want {
			t.Errorf("P2.3: Join(%v) = %s, want %s", x.tokens, got, x.want)
		}
	}
	for _, s := range signs {
		if got := Join([]api.Token{sign(s)}); got != s {
			t.Errorf("P2.3: Join of the sign %s: %s", s, got)
		}
	}
}

// broken returns tokens that no source has.
func broken() []api.Token {
	tokens := []api.Token{
		{}, {Text: "a"}, {Kind: 5}, {Kind: 5, Text: "a", Int: 1}, {Kind: -1, Text: "a"}, {Kind: 1<<63 - 1, Text: "a"}, {Kind: -1 << 63, Text: "a"}, {Kind: 257, Text: "a"},
		name(strings.Repeat("a", api.MaxName+1)), name("1"), name("+"), name("a b"), name("a "), name("\"a\""), name("a\n"),
		number(-1), number(api.MaxNumber + 1), number(1<<63 - 1), number(-1 << 63),
		text(strings.Repeat("a", api.MaxText+1)), text(strings.Repeat("a", 1000)),
		sign("+ "), sign(" +"), sign("+++"), sign("<=="), sign("=<"), sign("()"), sign("=="), sign("a"), sign("1"), sign("\""), sign("#"), sign("\x00"), sign("\xff"),
	}
	for _, s := range []string{"", "A", "_", "_a", "aB", "a-", "#", ">", "\x00", "\xff", "\u00e4"} {
		tokens = append(tokens, name(s), sign(s))
	}
	return tokens
}

// P2.3
func TestJoinLeavesOut(t *testing.T) {
	for _, token := range broken() {
		for _, x := range []struct {
			tokens []api.Token
			want   string
		}{
			{[]api.Token{token}, ""},
			{[]api.Token{token, token}, ""},
			{[]api.Token{token, name("a")}, "a"},
			{[]api.Token{name("a"), token}, "a"},
			{[]api.Token{name("a"), token, token, number(1), token, text("")}, `a 1 ""`},
		} {
			if got := Join(x.tokens); got != x.want {
				t.Errorf("P2.3: Join(%v) = %s, want %s", x.tokens, strconv.Quote(got), x.want)
			}
		}
	}
}

// P2.3: signs are only those of the table.
func TestJoinShortSigns(t *testing.T) {
	for n := range 256 {
		for _, s := range []string{string([]byte{byte(n)}), string([]byte{byte(n), '='}), string([]byte{'+', byte(n)})} {
			want := ""
			if slices.Contains(signs, s) {
				want = s
			}
			if got := Join([]api.Token{sign(s)}); got != want {
				t.Errorf("P2.3: Join of the sign %s: %s", strconv.Quote(s), strconv.Quote(got))
			}
		}
	}
}

// P2.3, and the consequence that Scan(Join(l)) is l, apart from the offsets.
func TestScanInvertsJoin(t *testing.T) {
	tokens := []api.Token{name("a"), name("z9_"), name(strings.Repeat("b", api.MaxName)), number(0), number(10), number(api.MaxNumber), text(""), text("a b"), text("#"), text(strings.Repeat("\xff", api.MaxText))}
	for _, s := range signs {
		tokens = append(tokens, sign(s))
	}
	for n := range 256 {
		tokens = append(tokens, text(string([]byte{byte(n)})), text(string([]byte{'a', byte(n), '0'})))
	}
	lists := [][]api.Token{nil, tokens}
	for _, a := range tokens {
		for _, b := range tokens {
			lists = append(lists, []api.Token{a, b})
		}
	}
	for _, list := range lists {
		got, pos, err := Scan(Join(list))
		end := 0
		for i := range got {
			if got[i].Pos < end {
				t.Fatalf("consequence: the tokens of %s overlap: %v", Join(list), got)
			}
			end = got[i].Pos + len(Join(got[i:i+1]))
			got[i].Pos = 0
		}
		if !slices.Equal(got, list) || pos != 0 || err != api.OK {
			t.Fatalf("P2.3: Scan(Join(%v)) = %v, %d, %d", list, got, pos, err)
		}
	}
}

// Rule 3: arguments are not modified.
func TestArgumentsStay(t *testing.T) {
	tokens := append(broken(), at(7, name("a")), at(3, text("\"")), at(1, number(1)))
	before := slices.Clone(tokens)
	Join(tokens)
	if !slices.Equal(tokens, before) {
		t.Error("rule 3: the tokens have been modified")
	}
}
