package syntax

import (
	"erasure/api"
	"erasure/lexer"
)

// fault is the first error of a source and its offset.
type fault struct {
	at    int
	errno api.Errno
}

// report keeps an error, unless there is one already.
func (f *fault) report(at int, errno api.Errno) {
	if f.errno == api.OK {
		*f = fault{at, errno}
	}
}

// parser reads the tokens of a source. Its methods are the lines of the grammar.
type parser struct {
	fault
	rest       []api.Token // the tokens that have not been read; none after an error, so that every method ends
	end        int         // the length of the source
	references []reference // of the formula that is being read
}

func newParser(src string) *parser {
	tokens, at, errno := lexer.Scan(src)
	p := &parser{rest: tokens, end: len(src)}
	p.report(at, errno)
	return p
}

// fail reports that the next token, or the end, cannot follow.
func (p *parser) fail() {
	at := p.end
	if len(p.rest) > 0 {
		at = p.rest[0].Pos
	}
	p.report(at, api.ErrSyntax)
	p.rest = nil
}

// ahead returns the token behind the next n ones, or no token, which has no kind.
func (p *parser) ahead(n int) api.Token {
	if n >= len(p.rest) {
		return api.Token{}
	}
	return p.rest[n]
}

// isWord reports whether a token is a certain name or sign.
func isWord(token api.Token, word string) bool {
	return (token.Kind == api.TokenName || token.Kind == api.TokenSign) && token.Text == word
}

// accept reads the words if all of them follow.
func (p *parser) accept(words ...string) bool {
	for i, word := range words {
		if !isWord(p.ahead(i), word) {
			return false
		}
	}
	p.rest = p.rest[len(words):]
	return true
}

// acceptKeyword reads a word that is a name if the sign = follows it.
func (p *parser) acceptKeyword(word string) bool {
	return !isWord(p.ahead(1), "=") && p.accept(word)
}

// expect reads a word that has to follow.
func (p *parser) expect(word string) {
	if !p.accept(word) {
		p.fail()
	}
}

// expectEnd fails unless all tokens have been read.
func (p *parser) expectEnd() {
	if len(p.rest) > 0 {
		p.fail()
	}
}

// choose reads one of the words and returns its number, or -1 if none of them follows.
func (p *parser) choose(words ...string) int {
	for i, word := range words {
		if p.accept(word) {
			return i
		}
	}
	p.fail()
	return -1
}

// token reads a token of a kind.
func (p *parser) token(kind int) api.Token {
	next := p.ahead(0)
	if next.Kind != kind {
		p.fail()
		return api.Token{}
	}
	p.rest = p.rest[1:]
	return next
}

// name reads a name whose offset matters: that of a column or store that has to exist.
func (p *parser) name() api.Token { return p.token(api.TokenName) }

// word reads any other name.
func (p *parser) word() string { return p.name().Text }

func (p *parser) number() int { return int(p.token(api.TokenNumber).Int) }

// list reads elements with commas between them.
func (p *parser) list(element func()) {
	element()
	for p.accept(",") {
		element()
	}
}
