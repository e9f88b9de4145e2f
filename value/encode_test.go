package value

import (
	"slices"
	"strconv"
	"strings"
	"testing"

	"erasure/api"
)

// P1.4
func TestEncodeRow(t *testing.T) {
	for _, x := range []struct {
		row  []api.Value
		want string
	}{
		{nil, ""},
		{[]api.Value{{}, text("a")}, "\x01\x03a\x00\x00"},
		{[]api.Value{integer(-api.MaxNumber)}, "\x02\x00\x00\x00\x00\x00"},
		{[]api.Value{integer(-1)}, "\x02\x00\xff\xff\xff\xff"},
		{[]api.Value{integer(0)}, "\x02\x01\x00\x00\x00\x00"},
		{[]api.Value{integer(0x01020304)}, "\x02\x01\x01\x02\x03\x04"},
		{[]api.Value{integer(api.MaxNumber), {}}, "\x02\x02\x00\x00\x00\x00\x01"},
		{[]api.Value{text(""), text("\x00"), text("\x00\xff\x00")}, "\x03\x00\x00\x03\x00\xff\x00\x00\x03\x00\xff\xff\x00\xff\x00\x00"},
		{broken()[:3], "\x01\x01\x01"},
		{make([]api.Value, 20), strings.Repeat("\x01", 20)},
	} {
		if got := EncodeRow(x.row); got != x.want {
			t.Errorf("P1.4: EncodeRow(%v) = %s, want %s", x.row, strconv.Quote(got), strconv.Quote(x.want))
		}
	}
	for _, v := range broken() {
		if got := EncodeRow([]api.Value{v}); got != "\x01" {
			t.Errorf("P1.4: EncodeRow of %v, which is not valid: %s", v, strconv.Quote(got))
		}
	}
}

// P1.4, and the consequence that DecodeRow(EncodeRow(r)) is r for every valid row.
func TestDecodeInvertsEncode(t *testing.T) {
	for _, row := range rows(ascending()) {
		got, err := DecodeRow(EncodeRow(row))
		if ValidRow(row) {
			if !slices.Equal(got, row) || err != api.OK {
				t.Errorf("P1.4: DecodeRow of the byte form of %v: %v, %d", row, got, err)
			}
		} else if len(got) != 0 || err != api.ErrInvalid {
			t.Errorf("P1.4: DecodeRow of the byte form of a row of %d values: %v, %d", len(row), got, err)
		}
	}
}

// P1.4
func TestDecodeErrors(t *testing.T) {
	for _, s := range []string{
		"\x00", "\x04", "\xff", "\x01\x00",
		"\x02", "\x02\x01\x00\x00\x00", "\x02\x02\x00\x00\x00\x01", "\x02\x03\x00\x00\x00\x00", "\x02\xff\xff\xff\xff\xff",
		"\x02\x01\x00\x00\x00\x00\x00",
		"\x03", "\x03a", "\x03\x00", "\x03a\x00", "\x03\x00\xff", "\x03a\x00\xff", "\x03\x00\xff\x00",
		"\x03\x00\x01\x00\x00", "\x03\x00\xfe\x00\x00", "\x03\x00\x00\x00", "\x01\x03\x00\x00\x00",
		"\x03" + strings.Repeat("a", api.MaxText+1) + "\x00\x00",
		"\x03" + strings.Repeat("\x00\xff", api.MaxText+1) + "\x00\x00",
		"\x03" + strings.Repeat("a", 10000),
		strings.Repeat("\x01", 2*api.MaxColumns+1),
		strings.Repeat("\x01", 2*api.MaxColumns) + "\x03\x00\x00",
	} {
		if row, err := DecodeRow(s); len(row) != 0 || err != api.ErrInvalid {
			t.Errorf("P1.4: DecodeRow(%s) = %v, %d, want ErrInvalid", strconv.Quote(s), row, err)
		}
	}
	full := "\x03" + strings.Repeat("\x00\xff", api.MaxText) + "\x00\x00"
	if row, err := DecodeRow(full); len(row) != 1 || err != api.OK {
		t.Errorf("P1.4: DecodeRow of a text of MaxText bytes: %v, %d", row, err)
	}
}

// P1.4: a row has one byte form, so that DecodeRow accepts no other.
func TestDecodeAcceptsOnlyByteForms(t *testing.T) {
	for s := range strings.SplitSeq(words("\x00\x01\x02\x03a\xff", 7), " ") {
		row, err := DecodeRow(s)
		if err == api.OK && (!ValidRow(row) || EncodeRow(row) != s) {
			t.Errorf("P1.4: DecodeRow(%s) = %v, whose byte form is %s", strconv.Quote(s), row, strconv.Quote(EncodeRow(row)))
		}
		if err != api.OK && (err != api.ErrInvalid || len(row) != 0) {
			t.Errorf("P1.4: DecodeRow(%s) = %v, %d", strconv.Quote(s), row, err)
		}
	}
}

// The consequence that byte forms are ordered as the rows are.
func TestByteFormsAreOrdered(t *testing.T) {
	all := rows(ascending())
	forms := make([]string, len(all))
	for i, row := range all {
		forms[i] = EncodeRow(row)
	}
	for i, a := range all {
		for k, b := range all {
			if got, want := strings.Compare(forms[i], forms[k]), CompareRows(a, b); got != want {
				t.Fatalf("consequence: the byte forms of %v and %v compare as %d, want %d", a, b, got, want)
			}
		}
	}
}
