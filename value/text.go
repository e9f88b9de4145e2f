package value

import (
	"strconv"
	"strings"

	"erasure/api"
)

const (
	nullForm  = "null"
	hexDigits = "0123456789abcdef"
)

// Format returns the text form of Clean(v).
func Format(v api.Value) string {
	v = Clean(v)
	switch v.Kind {
	case api.KindInt:
		return strconv.FormatInt(v.Int, 10)
	case api.KindText:
		return quote(v.Text)
	default:
		return nullForm
	}
}

// Parse returns the value with the text form s; ErrSyntax if s has no such form, ErrInvalid if the value is beyond its limit.
func Parse(s string) (api.Value, api.Errno) {
	switch {
	case s == nullForm:
		return api.Value{}, api.OK
	case strings.HasPrefix(s, `"`):
		return parseText(s)
	default:
		return parseInt(s)
	}
}

// needsEscape reports whether the byte does not stand for itself in a quoted text.
func needsEscape(b byte) bool {
	return b == '"' || b == '\\' || b < 32 || b > 126
}

func quote(text string) string {
	quoted := []byte{'"'}
	for _, b := range []byte(text) {
		if needsEscape(b) {
			quoted = append(quoted, '\\', hexDigits[b>>4], hexDigits[b&15])
		} else {
			quoted = append(quoted, b)
		}
	}
	return string(append(quoted, '"'))
}

// parseText parses s, which begins with a double quote.
func parseText(s string) (api.Value, api.Errno) {
	body, closed := strings.CutSuffix(s[1:], `"`)
	if !closed {
		return api.Value{}, api.ErrSyntax
	}
	text, ok := unescape(body)
	if !ok {
		return api.Value{}, api.ErrSyntax
	}
	return inLimits(api.Value{Kind: api.KindText, Text: text})
}

// unescape inverts the replacement of bytes by quote. It accepts only what quote produces, so that a text has one form.
func unescape(body string) (string, bool) {
	var text []byte
	for i := 0; i < len(body); i++ {
		b := body[i]
		if b == '\\' {
			escaped, ok := escapedByte(body[i+1:])
			if !ok {
				return "", false
			}
			b = escaped
			i += 2
		} else if needsEscape(b) {
			return "", false
		}
		text = append(text, b)
	}
	return string(text), true
}

// escapedByte returns the byte whose two digits s begins with, if this byte has to be escaped.
func escapedByte(s string) (byte, bool) {
	if len(s) < 2 {
		return 0, false
	}
	high := strings.IndexByte(hexDigits, s[0])
	low := strings.IndexByte(hexDigits, s[1])
	if high < 0 || low < 0 {
		return 0, false
	}
	b := byte(high<<4 | low)
	return b, needsEscape(b)
}

func parseInt(s string) (api.Value, api.Errno) {
	if !isDecimal(strings.TrimPrefix(s, "-")) || s == "-0" {
		return api.Value{}, api.ErrSyntax
	}
	n, err := strconv.ParseInt(s, 10, 64)
	if err != nil {
		// The notation is correct, so the number does not fit into 64 bits.
		return api.Value{}, api.ErrInvalid
	}
	return inLimits(api.Value{Kind: api.KindInt, Int: n})
}

// isDecimal reports whether s consists of digits, without a leading zero before others.
func isDecimal(s string) bool {
	if s == "" || len(s) > 1 && s[0] == '0' {
		return false
	}
	for _, b := range []byte(s) {
		if b < '0' || b > '9' {
			return false
		}
	}
	return true
}

// inLimits returns v if it is valid, and ErrInvalid otherwise.
func inLimits(v api.Value) (api.Value, api.Errno) {
	if !Valid(v) {
		return api.Value{}, api.ErrInvalid
	}
	return v, api.OK
}
