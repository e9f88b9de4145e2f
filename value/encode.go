package value

import (
	"erasure/api"
)

// The first byte of the byte form of a value. These ascend as the kinds do, so that byte forms are ordered as the rows are.
const (
	markNull byte = iota + 1
	markInt
	markText
)

// A zero byte of a text is followed by zeroInText, and the end of a text is a zero byte followed by endOfText.
const (
	endOfText  byte = 0
	zeroInText byte = 255
)

const intBytes = 5 // of the number Int + MaxNumber

// EncodeRow returns the byte form of the row of the cleaned values.
func EncodeRow(r []api.Value) string {
	var form []byte
	for _, v := range r {
		form = appendValue(form, Clean(v))
	}
	return string(form)
}

// DecodeRow returns the valid row with the byte form s, or ErrInvalid.
func DecodeRow(s string) ([]api.Value, api.Errno) {
	var row []api.Value
	for s != "" {
		v, size := decodeValue(s)
		if size == 0 || len(row) == maxRow {
			return nil, api.ErrInvalid
		}
		row = append(row, v)
		s = s[size:]
	}
	return row, api.OK
}

// appendValue appends the byte form of the valid value v.
func appendValue(form []byte, v api.Value) []byte {
	switch v.Kind {
	case api.KindInt:
		return appendInt(append(form, markInt), v.Int)
	case api.KindText:
		return appendText(append(form, markText), v.Text)
	default:
		return append(form, markNull)
	}
}

func appendInt(form []byte, n int64) []byte {
	// The sum is not negative, so that its bytes are ordered as the numbers are.
	sum := n + api.MaxNumber
	for i := intBytes - 1; i >= 0; i-- {
		form = append(form, byte(sum>>(8*i)))
	}
	return form
}

func appendText(form []byte, text string) []byte {
	for _, b := range []byte(text) {
		form = append(form, b)
		if b == 0 {
			form = append(form, zeroInText)
		}
	}
	return append(form, 0, endOfText)
}

// decodeValue returns the valid value with whose byte form s begins, and the size of this form, or 0 if there is none. s is not empty.
func decodeValue(s string) (api.Value, int) {
	switch s[0] {
	case markNull:
		return api.Value{}, 1
	case markInt:
		return decodeInt(s)
	case markText:
		return decodeText(s)
	default:
		return api.Value{}, 0
	}
}

// decodeInt is decodeValue for s that begins with markInt.
func decodeInt(s string) (api.Value, int) {
	size := 1 + intBytes
	if len(s) < size {
		return api.Value{}, 0
	}
	var sum int64
	for _, b := range []byte(s[1:size]) {
		sum = sum<<8 | int64(b)
	}
	v := api.Value{Kind: api.KindInt, Int: sum - api.MaxNumber}
	if !Valid(v) {
		return api.Value{}, 0
	}
	return v, size
}

// decodeText is decodeValue for s that begins with markText.
func decodeText(s string) (api.Value, int) {
	var text []byte
	for i := 1; i+1 < len(s) && len(text) <= api.MaxText; i++ {
		b := s[i]
		if b == 0 {
			switch s[i+1] {
			case endOfText:
				return api.Value{Kind: api.KindText, Text: string(text)}, i + 2
			case zeroInText:
				i++
			default:
				return api.Value{}, 0
			}
		}
		text = append(text, b)
	}
	return api.Value{}, 0
}
