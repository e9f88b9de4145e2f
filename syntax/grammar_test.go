package syntax

import (
	"math/rand"
	"slices"
	"strings"
	"testing"

	"erasure/api"
	"erasure/lexer"
)

// chapterGrammar is the grammar of the chapter. A name at the beginning of a factor is called free, because it is not the word not.
const chapterGrammar = `
source      = { declaration ";" } .
declaration = table | view | index | sketch | cache | release | stream | backup .
table       = "table" name "(" column { "," column } ")" [ "erase" "row" ] [ "retain" number ] .
column      = name ( "int" | "text" ) [ "namespace" name ] [ "references" name ]
              [ "personal" [ "all" ] "by" name { name } ] [ "duty" number ] .
view        = "view" name ( "select" [ "distinct" ] items inputs
              | "group" [ items ] "with" aggregates inputs | "union" name name ) .
items       = item { "," item } .
item        = name "=" expression .
aggregates  = aggregate { "," aggregate } .
aggregate   = name "=" ( "count" | ( "sum" | "min" | "max" | "median" ) "(" expression ")" ) .
inputs      = "from" name [ "join" name [ "on" pair { "," pair } ] ] [ "where" expression ] .
pair        = name "=" name .
index       = "index" name "on" name "." name .
sketch      = "sketch" name ( "count" | "bloom" | "bottom" ) number number "on" name "." name .
cache       = "cache" name "on" name "." name "for" number .
release     = "release" name "of" name "above" number .
stream      = "stream" name "of" name .
backup      = "backup" name "of" name { "," name } "keep" number .
expression  = conjunction { "or" conjunction } .
conjunction = comparison { "and" comparison } .
comparison  = sum [ ( "=" | "<" | "<=" ) sum ] .
sum         = product { ( "+" | "-" | "++" ) product } .
product     = factor { ( "*" | "/" ) factor } .
factor      = "-" number | "-" factor | "not" factor | atom .
atom        = number | text | "(" expression ")" | function | reference .
function    = ( "length" | "isnull" ) "(" expression ")"
              | ( "prefix" | "coalesce" ) "(" expression "," expression ")"
              | "if" "(" expression "," expression "," expression ")" .
reference   = free | ( "left" | "right" ) "." name .
`

// part is a part of a rule of the grammar: a word, a name of a rule or of a kind of tokens, or a combination of parts.
type part struct {
	kind  byte // a quotation mark, 'n' for a name, ',' for a sequence, '|', '[', '{'
	text  string
	parts []*part
}

// grammar reads the rules of a text in the notation of the chapter.
func grammar(text string) map[string]*part {
	words := strings.Fields(text)
	rules := map[string]*part{}
	for len(words) > 0 {
		name := words[0]
		rules[name], words = choice(words[2:])
		words = words[1:] // the point
	}
	return rules
}

// choice reads alternatives and returns the words behind them.
func choice(words []string) (*part, []string) {
	result := &part{kind: '|'}
	for {
		var sequence *part
		sequence, words = sequenceOf(words)
		result.parts = append(result.parts, sequence)
		if words[0] != "|" {
			return result, words
		}
		words = words[1:]
	}
}

func sequenceOf(words []string) (*part, []string) {
	result := &part{kind: ','}
	for {
		word := words[0]
		switch word {
		case ".", "|", ")", "]", "}":
			return result, words
		case "(", "[", "{":
			var inner *part
			inner, words = choice(words[1:])
			if word != "(" {
				inner = &part{kind: word[0], parts: []*part{inner}}
			}
			result.parts = append(result.parts, inner)
		default:
			if word[0] == '"' {
				result.parts = append(result.parts, &part{kind: '"', text: strings.Trim(word, `"`)})
			} else {
				result.parts = append(result.parts, &part{kind: 'n', text: word})
			}
		}
		words = words[1:]
	}
}

// reader finds out where parts of the grammar can end. It tries all readings, so that the greatest position at which it has looked for a token is that of the first token that cannot follow.
type reader struct {
	rules  map[string]*part
	tokens []api.Token
	far    int
	known  map[string]map[int][]int
}

// ends returns the positions behind all readings of a part that begin at pos.
func (r *reader) ends(x *part, pos int) []int {
	switch x.kind {
	case '"':
		return r.terminal(pos, func(token api.Token) bool {
			return token.Text == x.text && (token.Kind == api.TokenName || token.Kind == api.TokenSign)
		})
	case 'n':
		return r.named(x.text, pos)
	case ',':
		all := []int{pos}
		for _, next := range x.parts {
			all = r.behind(next, all)
		}
		return all
	case '|':
		var all []int
		for _, next := range x.parts {
			all = append(all, r.ends(next, pos)...)
		}
		return unique(all)
	case '[':
		return unique(append(r.ends(x.parts[0], pos), pos))
	default:
		all := []int{pos}
		for size := 0; size < len(all); {
			size = len(all)
			all = unique(append(r.behind(x.parts[0], all), all...))
		}
		return all
	}
}

func (r *reader) behind(x *part, positions []int) []int {
	var all []int
	for _, pos := range positions {
		all = append(all, r.ends(x, pos)...)
	}
	return unique(all)
}

func unique(positions []int) []int {
	slices.Sort(positions)
	return slices.Compact(positions)
}

func (r *reader) terminal(pos int, fits func(api.Token) bool) []int {
	r.far = max(r.far, pos)
	if pos < len(r.tokens) && fits(r.tokens[pos]) {
		return []int{pos + 1}
	}
	return nil
}

func (r *reader) named(name string, pos int) []int {
	kind := func(kind int) []int {
		return r.terminal(pos, func(token api.Token) bool { return token.Kind == kind })
	}
	switch name {
	case "name":
		return kind(api.TokenName)
	case "number":
		return kind(api.TokenNumber)
	case "text":
		return kind(api.TokenText)
	case "free":
		return r.terminal(pos, func(token api.Token) bool { return token.Kind == api.TokenName && token.Text != "not" })
	}
	if r.known[name] == nil {
		r.known[name] = map[int][]int{}
	}
	ends, found := r.known[name][pos]
	if !found {
		ends = r.ends(r.rules[name], pos)
		r.known[name][pos] = ends
	}
	return slices.Clone(ends)
}

// wantSyntax returns the offset of the first token that cannot follow, and whether there is an error.
func wantSyntax(rules map[string]*part, rule, src string) (int, bool) {
	tokens, _, _ := lexer.Scan(src)
	r := &reader{rules: rules, tokens: tokens, known: map[string]map[int][]int{}}
	switch {
	case slices.Contains(r.named(rule, 0), len(tokens)):
		return 0, false
	case r.far == len(tokens):
		return len(src), true
	default:
		return tokens[r.far].Pos, true
	}
}

// common are tokens of expressions.
func common() []string {
	return strings.Fields(`a b "a" "or" 0 7 ( ) , . ; + - * / = < ++ <= ( ) , . = -`)
}

// vocabulary are tokens that occur in the grammar, and a few others.
func vocabulary() []string {
	words := common()
	for _, word := range strings.Fields(chapterGrammar) {
		if strings.HasPrefix(word, `"`) {
			words = append(words, strings.Trim(word, `"`))
		}
	}
	return words
}

// mutate replaces, removes, inserts or exchanges a token, or cuts tokens off.
func mutate(random *rand.Rand, tokens []string) []string {
	words := vocabulary()
	at, word := random.Intn(len(tokens)), words[random.Intn(len(words))]
	switch random.Intn(6) {
	case 0:
		return slices.Replace(tokens, at, at+1, word)
	case 1:
		return slices.Insert(tokens, at, word)
	case 2:
		return slices.Insert(tokens, at, tokens[random.Intn(len(tokens))])
	case 3:
		return append(slices.Delete(tokens, at, at+1), word)
	case 4:
		other := random.Intn(len(tokens))
		tokens[at], tokens[other] = tokens[other], tokens[at]
		return tokens
	default:
		return tokens[:at+1]
	}
}

// texts returns the texts of the tokens of a source.
func texts(src string) []string {
	tokens, _, _ := lexer.Scan(src)
	var all []string
	for _, token := range tokens {
		all = append(all, lexer.Join([]api.Token{token}))
	}
	return all
}

// P5.1: the sources that follow the grammar, and the offset of ErrSyntax for the others.
func TestGrammar(t *testing.T) {
	random := rand.New(rand.NewSource(5))
	rules := grammar(chapterGrammar)
	var sources [][]string
	for _, line := range strings.SplitAfter(Format(everyCatalogue()), "\n") {
		if len(line) > 0 {
			sources = append(sources, texts(line))
		}
	}
	sources = append(sources,
		texts("view v select distinct = not not - 1 + left . a , distinct = if ( a , - b , left ) from from join join on on = on , a = b where where ;"),
		texts("table duty ( duty int references duty personal all by duty duty duty 3 , all text personal by by personal ) erase row retain 7 ;"),
		texts("view group group with = with with with = count , sum = sum ( sum ) from count where ( a or b and prefix ( a , 1 ) <= right . b ) ++ 1 < 2 ;"))
	found := map[bool]int{}
	for range 40000 {
		tokens := slices.Clone(sources[random.Intn(len(sources))])
		if random.Intn(3) == 0 {
			tokens = append(tokens, sources[random.Intn(len(sources))]...)
		}
		for range random.Intn(4) {
			tokens = mutate(random, tokens)
		}
		src := strings.Join(tokens, " ") + []string{"", " ", " # end"}[random.Intn(3)]
		at, isError := wantSyntax(rules, "source", src)
		found[isError]++
		c, gotAt, errno := Parse(src)
		if (errno == api.ErrSyntax) != isError || isError && gotAt != at {
			t.Fatalf("P5.1: Parse(%q) = %d, %d, want ErrSyntax: %v, at %d", src, gotAt, errno, isError, at)
		}
		if errno != api.OK && !same(c, api.Catalogue{}) {
			t.Fatalf("P5.1: Parse(%q) = %v beside an error", src, c)
		}
	}
	if found[false] < 8000 || found[true] < 8000 {
		t.Errorf("%d correct and %d faulty sources", found[false], found[true])
	}
}

// P5.3: the sources that are expressions, and the offset of ErrSyntax for the others.
func TestGrammarOfExpressions(t *testing.T) {
	random := rand.New(rand.NewSource(3))
	rules := grammar(chapterGrammar)
	words := append(common(), strings.Fields("a a b b left right left . right . length ( if ( prefix ( coalesce ( isnull ( and or not not - 1")...)
	sources := [][]string{
		texts("not a or - 1 <= right . b and ( left . a ++ length ( \"a\" ) ) * 2 / - - 3"),
		texts("if ( a , prefix ( a , 1 ) , coalesce ( isnull ( not b ) , left ) ) - right = length"),
	}
	found := map[bool]int{}
	for range 40000 {
		var tokens []string
		if random.Intn(2) == 0 {
			tokens = slices.Clone(sources[random.Intn(len(sources))])
			for range 1 + random.Intn(4) {
				tokens = mutate(random, tokens)
			}
		} else {
			for range random.Intn(12) {
				tokens = append(tokens, words[random.Intn(len(words))])
			}
		}
		src := strings.Join(tokens, " ") + []string{"", " ", " # end"}[random.Intn(3)]
		at, isError := wantSyntax(rules, "expression", src)
		found[isError]++
		e, gotAt, errno := ParseExpr(src, []string{"a"}, []string{"b"})
		if (errno == api.ErrSyntax) != isError || isError && gotAt != at || errno != api.OK && len(e) != 0 {
			t.Fatalf("P5.3: ParseExpr(%q) = %v, %d, %d, want ErrSyntax: %v, at %d", src, e, gotAt, errno, isError, at)
		}
	}
	if found[false] < 2000 || found[true] < 2000 {
		t.Errorf("%d correct and %d faulty sources", found[false], found[true])
	}
}
