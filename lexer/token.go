package lexer

import (
	"strings"

	"erasure/api"
	"erasure/value"
)

const (
	shortSigns = "(),.;+-*/=<"
	concatSign = "++"
	atMostSign = "<="
)

// scanToken returns the token with which s begins, but for its position, and its size. s is not empty.
func scanToken(s string) (api.Token, int, api.Errno) {
	switch b := s[0]; {
	case isLetter(b):
		return scanName(s)
	case isDigit(b):
		return scanNumber(s)
	case b == '"':
		return scanText(s)
	default:
		return scanSign(s)
	}
}

// scanName is scanToken for s that begins with a letter.
func scanName(s string) (api.Token, int, api.Errno) {
	size := sizeOfRun(s, isInName)
	if size > api.MaxName {
		return api.Token{}, 0, api.ErrInvalid
	}
	return api.Token{Kind: api.TokenName, Text: strings.Clone(s[:size])}, size, api.OK
}

// scanNumber is scanToken for s that begins with a digit.
func scanNumber(s string) (api.Token, int, api.Errno) {
	size := sizeOfRun(s, isDigit)
	// A number of a source has the text form of an integer that is not negative, and the same limit and errors.
	v, errno := value.Parse(s[:size])
	if errno != api.OK {
		return api.Token{}, 0, errno
	}
	return api.Token{Kind: api.TokenNumber, Int: v.Int}, size, api.OK
}

// scanText is scanToken for s that begins with a quotation mark.
func scanText(s string) (api.Token, int, api.Errno) {
	// Quotation marks within a text are escaped by their digits, so that the next one ends the text.
	length := strings.IndexByte(s[1:], '"')
	if length < 0 {
		return api.Token{}, 0, api.ErrSyntax
	}
	size := length + 2
	v, errno := value.Parse(s[:size])
	if errno != api.OK {
		return api.Token{}, 0, errno
	}
	return api.Token{Kind: api.TokenText, Text: v.Text}, size, api.OK
}

// scanSign is scanToken for s that can only begin with a sign.
func scanSign(s string) (api.Token, int, api.Errno) {
	size := signSize(s)
	if size == 0 {
		return api.Token{}, 0, api.ErrSyntax
	}
	return api.Token{Kind: api.TokenSign, Text: strings.Clone(s[:size])}, size, api.OK
}

// tokenText returns the text of a token in a source, or the empty string if no source has this token.
func tokenText(token api.Token) string {
	switch token.Kind {
	case api.TokenName:
		if IsName(token.Text) {
			return token.Text
		}
	case api.TokenNumber:
		if 0 <= token.Int && token.Int <= api.MaxNumber {
			return value.Format(api.Value{Kind: api.KindInt, Int: token.Int})
		}
	case api.TokenText:
		if len(token.Text) <= api.MaxText {
			return value.Format(api.Value{Kind: api.KindText, Text: token.Text})
		}
	case api.TokenSign:
		if token.Text != "" && signSize(token.Text) == len(token.Text) {
			return token.Text
		}
	}
	return ""
}

// signSize returns the size of the longest sign with which s begins, or 0 if there is none.
func signSize(s string) int {
	switch {
	case strings.HasPrefix(s, concatSign), strings.HasPrefix(s, atMostSign):
		return 2
	case s != "" && strings.IndexByte(shortSigns, s[0]) >= 0:
		return 1
	default:
		return 0
	}
}

// sizeOfRun returns the number of bytes at the beginning of s that are all of one class.
func sizeOfRun(s string, inClass func(byte) bool) int {
	size := 0
	for size < len(s) && inClass(s[size]) {
		size++
	}
	return size
}

func isLetter(b byte) bool    { return 'a' <= b && b <= 'z' }
func isDigit(b byte) bool     { return '0' <= b && b <= '9' }
func isInName(b byte) bool    { return isLetter(b) || isDigit(b) || b == '_' }
func isInComment(b byte) bool { return b != '\n' }
