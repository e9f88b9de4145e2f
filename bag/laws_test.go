package bag

import (
	"math/rand"
	"slices"
	"testing"

	"erasure/api"
)

// maker makes lists and bags of rows from ascendingRows.
type maker struct {
	*rand.Rand
	rows [][]api.Value
}

func newMaker() maker { return maker{rand.New(rand.NewSource(1)), ascendingRows()} }

// count makes a multiplicity, mostly a small one.
func (m maker) count() int64 {
	switch m.Intn(60) {
	case 0:
		return api.MaxCount
	case 1:
		return -api.MaxCount
	case 2:
		return api.MaxCount - 1
	default:
		return int64(m.Intn(7)) - 3
	}
}

// list makes a list, and the sum of the multiplicities for each of the rows.
func (m maker) list() ([]api.Entry, []int64) {
	sums := make([]int64, len(m.rows))
	var l []api.Entry
	for range m.Intn(40) {
		i, count := m.Intn(len(m.rows)), m.count()
		sums[i] += count
		l = append(l, api.Entry{Row: m.rows[i], Count: count})
	}
	return l, sums
}

// bagOf returns the bag with these sums for the rows, by the definitions of the chapter, or ErrOverflow.
func (m maker) bagOf(sums []int64) ([]api.Entry, api.Errno) {
	var b []api.Entry
	for i, sum := range sums {
		if sum > api.MaxCount || sum < -api.MaxCount {
			return nil, api.ErrOverflow
		}
		if sum != 0 {
			b = append(b, api.Entry{Row: m.rows[i], Count: sum})
		}
	}
	return b, api.OK
}

// bag makes a valid bag, and its multiplicity of each of the rows.
func (m maker) bag() ([]api.Entry, []int64) {
	for {
		_, sums := m.list()
		if b, errno := m.bagOf(sums); errno == api.OK {
			return b, sums
		}
	}
}

// P6.2, and the consequences that the order does not matter and that a valid bag stays.
func TestLawsOfNormalize(t *testing.T) {
	m := newMaker()
	errors := 0
	for range 20000 {
		l, sums := m.list()
		want, wantErrno := m.bagOf(sums)
		if wantErrno != api.OK {
			errors++
		}
		for range 2 {
			got, errno := Normalize(l)
			checkResult(t, "P6.2", got, errno, want, wantErrno)
			m.Shuffle(len(l), func(i, k int) { l[i], l[k] = l[k], l[i] })
		}
		got, errno := Normalize(want)
		checkResult(t, "consequence: Normalize of a valid bag", got, errno, want, api.OK)
		if t.Failed() {
			return
		}
	}
	if errors < 100 {
		t.Errorf("only %d of the lists overflow", errors)
	}
}

// P6.3, for bags of rows of all kinds.
func TestLawsOfSums(t *testing.T) {
	m := newMaker()
	for range 20000 {
		a, inA := m.bag()
		b, inB := m.bag()
		plus, minus := slices.Clone(inA), slices.Clone(inA)
		for i := range m.rows {
			plus[i] += inB[i]
			minus[i] -= inB[i]
		}
		want, wantErrno := m.bagOf(plus)
		got, errno := Add(a, b)
		checkResult(t, "P6.3: Add", got, errno, want, wantErrno)
		got, errno = Add(b, a)
		checkResult(t, "consequence: Add commutes", got, errno, want, wantErrno)
		got, errno = Normalize(slices.Concat(b, a))
		checkResult(t, "P6.3: Add and Normalize", got, errno, want, wantErrno)
		want, wantErrno = m.bagOf(minus)
		got, errno = Subtract(a, b)
		checkResult(t, "P6.3: Subtract", got, errno, want, wantErrno)
		if t.Failed() {
			return
		}
	}
}

// The consequence that bags are an abelian group, as far as there are no errors.
func TestLawsOfGroup(t *testing.T) {
	m := newMaker()
	checked := 0
	for range 20000 {
		a, _ := m.bag()
		b, _ := m.bag()
		c, _ := m.bag()
		got, errno := Subtract(a, a)
		checkResult(t, "consequence: a - a", got, errno, nil, api.OK)
		got, errno = Add(a, nil)
		checkResult(t, "consequence: a + 0", got, errno, a, api.OK)
		opposite, errno := Subtract(nil, b)
		checkResult(t, "consequence: -(-b)", must(Subtract(nil, opposite)), errno, b, api.OK)
		difference, errnoOfSubtract := Subtract(a, b)
		got, errno = Add(a, opposite)
		checkResult(t, "consequence: a + (-b)", got, errno, difference, errnoOfSubtract)
		ab, errno1 := Add(a, b)
		bc, errno2 := Add(b, c)
		left, errno3 := Add(ab, c)
		right, errno4 := Add(a, bc)
		if max(errno1, errno2, errno3, errno4) == api.OK {
			checked++
			checkResult(t, "consequence: (a + b) + c", left, api.OK, right, api.OK)
			checkResult(t, "consequence: (a + b) - b", must(Subtract(ab, b)), api.OK, a, api.OK)
		}
		if t.Failed() {
			return
		}
	}
	if checked < 5000 {
		t.Errorf("only %d sums of three bags without errors", checked)
	}
}

// must returns a bag, and no bag of use if there is an error.
func must(b []api.Entry, errno api.Errno) []api.Entry {
	if errno != api.OK {
		return []api.Entry{{Count: int64(errno)}}
	}
	return b
}

// P6.1 and P6.4, for bags of rows of all kinds.
func TestLawsOfLooks(t *testing.T) {
	m := newMaker()
	for range 5000 {
		b, counts := m.bag()
		size, positive := int64(0), true
		var support []api.Entry
		for i, count := range counts {
			size += count
			positive = positive && count >= 0
			if count > 0 {
				support = append(support, api.Entry{Row: m.rows[i], Count: 1})
			}
			if got := Count(b, m.rows[i]); got != count {
				t.Fatalf("P6.4: Count(%v, %v) = %d, want %d", b, m.rows[i], got, count)
			}
		}
		if !Valid(b) || Positive(b) != positive {
			t.Fatalf("P6.1: %v: Valid %v, Positive %v", b, Valid(b), Positive(b))
		}
		if got := Size(b); got != size {
			t.Fatalf("P6.4: Size(%v) = %d, want %d", b, got, size)
		}
		if got := Support(b); !same(got, support) || !Positive(got) {
			t.Fatalf("P6.4: Support(%v) = %v, want %v", b, got, support)
		}
	}
}
