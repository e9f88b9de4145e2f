package bag

import (
	"maps"
	"slices"

	"erasure/api"
	"erasure/value"
)

// sums are the sums of the multiplicities of rows, by the byte forms of the rows. They do not overflow: a list has less than 2^31 entries.
type sums map[string]int64

// Normalize returns the bag of a list, or ErrInvalid, ErrFull or ErrOverflow.
func Normalize(l []api.Entry) ([]api.Entry, api.Errno) {
	for _, e := range l {
		if !isListable(e) {
			return nil, api.ErrInvalid
		}
	}
	s := sums{}
	s.add(l, 1)
	return s.bag()
}

// Add returns the bag of all entries of a and b, or ErrInvalid, ErrFull or ErrOverflow.
func Add(a, b []api.Entry) ([]api.Entry, api.Errno) {
	return combine(a, b, 1)
}

// Subtract returns the bag of the entries of a and of those of b with the opposite multiplicity, or ErrInvalid, ErrFull or ErrOverflow.
func Subtract(a, b []api.Entry) ([]api.Entry, api.Errno) {
	return combine(a, b, -1)
}

// combine returns the bag of the entries of a and of those of b with their multiplicities times sign.
func combine(a, b []api.Entry, sign int64) ([]api.Entry, api.Errno) {
	if !Valid(a) || !Valid(b) {
		return nil, api.ErrInvalid
	}
	s := sums{}
	s.add(a, 1)
	s.add(b, sign)
	return s.bag()
}

// add adds the multiplicities of a list times sign.
func (s sums) add(l []api.Entry, sign int64) {
	for _, e := range l {
		s[value.EncodeRow(e.Row)] += sign * e.Count
	}
}

// bag returns the bag with these sums, or ErrFull or ErrOverflow.
func (s sums) bag() ([]api.Entry, api.Errno) {
	maps.DeleteFunc(s, func(_ string, sum int64) bool { return sum == 0 })
	if len(s) > api.MaxRows {
		return nil, api.ErrFull
	}
	var b []api.Entry
	for form, sum := range s {
		if !isWithinLimit(sum) {
			return nil, api.ErrOverflow
		}
		// The keys are byte forms of valid rows, so that decoding has no error and gives a row of its own.
		row, _ := value.DecodeRow(form)
		b = append(b, api.Entry{Row: row, Count: sum})
	}
	slices.SortFunc(b, compareEntries)
	return b, api.OK
}
