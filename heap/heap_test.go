package heap_test

import (
	"math"
	"slices"
	"testing"

	"haulier/api"
	"haulier/heap"
)

// orders are the three, and some that are none of them, also such as would be one if only some of their bits were looked at.
func orders() []int {
	return []int{
		api.LeastBound, api.Deepest, api.First,
		-1, -2, 3, 4, 9, 255, 256, 257, 1 << 32, 1<<32 + 1, -1 << 32, math.MinInt, math.MinInt + 1, math.MaxInt - 1, math.MaxInt,
	}
}

func entry(bound, depth, no int) api.Entry { return api.Entry{Bound: bound, Depth: depth, No: no} }

// lcg is a row of numbers that are spread out, the same in each run.
type lcg uint64

func (s *lcg) below(n int) int {
	*s = *s*6364136223846793005 + 1442695040888963407
	// The low bits of such a row repeat soon: only the high ones are taken.
	return int(uint64(*s) >> 33 % uint64(n))
}

// less says what P3.1 says, word by word.
func less(order int, a, b api.Entry) bool {
	switch order {
	case api.LeastBound:
		return a.Bound < b.Bound ||
			a.Bound == b.Bound && a.Depth > b.Depth ||
			a.Bound == b.Bound && a.Depth == b.Depth && a.No < b.No
	case api.Deepest:
		return a.Depth > b.Depth ||
			a.Depth == b.Depth && a.Bound < b.Bound ||
			a.Depth == b.Depth && a.Bound == b.Bound && a.No < b.No
	default:
		return a.No < b.No ||
			a.No == b.No && a.Bound < b.Bound ||
			a.No == b.No && a.Bound == b.Bound && a.Depth < b.Depth
	}
}

// everyEntry is all entries of some numbers.
func everyEntry(numbers ...int) []api.Entry {
	var l []api.Entry
	for _, bound := range numbers {
		for _, depth := range numbers {
			for _, no := range numbers {
				l = append(l, entry(bound, depth, no))
			}
		}
	}
	return l
}

// inOrder is l, sorted by P3.1's words: entries that tie in all three numbers cannot be told apart.
func inOrder(order int, l []api.Entry) []api.Entry {
	sorted := slices.Clone(l)
	slices.SortFunc(sorted, func(a, b api.Entry) int {
		switch {
		case less(order, a, b):
			return -1
		case less(order, b, a):
			return 1
		}
		return 0
	})
	return sorted
}

func filled(order int, l []api.Entry) *heap.Heap {
	h := heap.New(order)
	for _, e := range l {
		h.Put(e)
	}
	return h
}

// emptied is all that is taken, one behind the other.
func emptied(h *heap.Heap) []api.Entry {
	var l []api.Entry
	for range h.Len() {
		e, is := h.Take()
		if !is {
			break
		}
		l = append(l, e)
	}
	return l
}

// mustBeEmpty asks all that an empty heap answers, twice, as asking may change nothing.
func mustBeEmpty(t *testing.T, h *heap.Heap) {
	t.Helper()
	for range 2 {
		if n := h.Len(); n != 0 {
			t.Errorf("Len of an empty heap: %d", n)
		}
		if least := h.Least(); least != api.Inf {
			t.Errorf("Least of an empty heap: %d", least)
		}
		if e, is := h.Take(); is || e != (api.Entry{}) {
			t.Errorf("Take of an empty heap: %v, %t", e, is)
		}
	}
}

// P3.1: written out; the first one is less, and the other is not.
func TestLess(t *testing.T) {
	const least, greatest = math.MinInt, math.MaxInt
	for _, c := range []struct {
		order int
		a, b  api.Entry
	}{
		// Bound, Depth, No.
		{api.LeastBound, entry(3, 1, 9), entry(5, 2, 1)},
		{api.LeastBound, entry(-5, 0, 0), entry(-3, 0, 0)},
		{api.LeastBound, entry(3, 2, 9), entry(3, 1, 1)},
		{api.LeastBound, entry(3, -1, 9), entry(3, -2, 1)},
		{api.LeastBound, entry(3, 2, 1), entry(3, 2, 4)},
		{api.LeastBound, entry(3, 2, -4), entry(3, 2, -1)},
		{api.LeastBound, entry(least, 0, 0), entry(greatest, 0, 0)},
		{api.LeastBound, entry(0, greatest, 0), entry(0, least, 0)},
		{api.LeastBound, entry(0, -1, 0), entry(0, least, 0)},
		{api.LeastBound, entry(0, 0, least), entry(0, 0, greatest)},
		{api.LeastBound, entry(api.Inf, 0, 0), entry(api.Inf+1, 9, 0)},

		{api.Deepest, entry(9, 3, 9), entry(1, 2, 1)},
		{api.Deepest, entry(9, -2, 9), entry(1, -3, 1)},
		{api.Deepest, entry(1, 3, 9), entry(2, 3, 1)},
		{api.Deepest, entry(-2, 3, 9), entry(-1, 3, 1)},
		{api.Deepest, entry(1, 3, 4), entry(1, 3, 5)},
		{api.Deepest, entry(0, greatest, 0), entry(0, least, 0)},
		{api.Deepest, entry(0, -1, 0), entry(0, least, 0)},
		{api.Deepest, entry(least, 0, 0), entry(greatest, 0, 0)},
		{api.Deepest, entry(0, 0, least), entry(0, 0, greatest)},

		{api.First, entry(9, 1, 1), entry(1, 9, 2)},
		{api.First, entry(9, 1, -2), entry(1, 9, -1)},
		{api.First, entry(1, 9, 2), entry(2, 1, 2)},
		{api.First, entry(1, 3, 2), entry(1, 4, 2)},
		{api.First, entry(1, -4, 2), entry(1, -3, 2)},
		{api.First, entry(0, 0, least), entry(0, 0, greatest)},
		{api.First, entry(least, 0, 0), entry(greatest, 0, 0)},
		{api.First, entry(0, least, 0), entry(0, greatest, 0)},

		{-1, entry(9, 1, 1), entry(1, 9, 2)},
		{-1, entry(1, 9, 2), entry(2, 1, 2)},
		{-1, entry(1, 3, 2), entry(1, 4, 2)},
		{3, entry(9, 1, 1), entry(1, 9, 2)},
		{3, entry(1, 9, 2), entry(2, 1, 2)},
		{3, entry(1, 3, 2), entry(1, 4, 2)},
		{least, entry(9, 1, 1), entry(1, 9, 2)},
		{greatest, entry(9, 1, 1), entry(1, 9, 2)},
	} {
		if !heap.Less(c.order, c.a, c.b) {
			t.Errorf("Less(%d, %v, %v): false", c.order, c.a, c.b)
		}
		if heap.Less(c.order, c.b, c.a) {
			t.Errorf("Less(%d, %v, %v): true", c.order, c.b, c.a)
		}
	}
}

// P3.1: entries that tie in all three numbers are neither one less than the other.
func TestLessOfOneEntry(t *testing.T) {
	for _, order := range orders() {
		for _, e := range everyEntry(math.MinInt, -1, 0, 7, api.Inf, math.MaxInt) {
			if heap.Less(order, e, e) {
				t.Errorf("Less(%d, %v, %v): true", order, e, e)
			}
		}
	}
}

// P3.1: each two entries, in each order, held against the words; ties in none, one, two and three numbers are among them.
func TestLessOfEachTwo(t *testing.T) {
	l := everyEntry(math.MinInt, -2, 0, 3, math.MaxInt)
	for _, order := range orders() {
		for _, a := range l {
			for _, b := range l {
				if got, want := heap.Less(order, a, b), less(order, a, b); got != want {
					t.Errorf("Less(%d, %v, %v): %t", order, a, b, got)
				}
			}
		}
	}
}

// P3.2: a heap with nothing put in.
func TestEmptyHeap(t *testing.T) {
	for _, order := range orders() {
		h := heap.New(order)
		if h == nil {
			t.Fatalf("New(%d): nil", order)
		}
		mustBeEmpty(t, h)
	}
	// One that New did not make is no less a Heap: no call of it may panic.
	made := new(heap.Heap)
	mustBeEmpty(t, made)
	made.Put(api.Entry{Bound: 4})
	if e, is := made.Take(); !is || e != (api.Entry{Bound: 4}) {
		t.Errorf("Take: %v, %t", e, is)
	}
}

// P3.2: a nil heap is empty, and stays so.
func TestNilHeap(t *testing.T) {
	var none *heap.Heap
	mustBeEmpty(t, none)
	for range 3 {
		none.Put(entry(1, 2, 3))
		if none != nil {
			t.Fatal("Put made a heap of nil")
		}
		mustBeEmpty(t, none)
	}
	mustBeEmpty(t, heap.New(api.LeastBound))
}

// P3.2: one entry, of each kind, also of noughts.
func TestOneEntry(t *testing.T) {
	for _, order := range orders() {
		for _, e := range everyEntry(math.MinInt, -1, 0, 1, api.Inf, math.MaxInt) {
			h := filled(order, []api.Entry{e})
			if h.Len() != 1 || h.Least() != e.Bound {
				t.Errorf("order %d, %v: Len %d, Least %d", order, e, h.Len(), h.Least())
			}
			if got, is := h.Take(); !is || got != e {
				t.Errorf("order %d: Take %v, %t, want %v", order, got, is, e)
			}
			mustBeEmpty(t, h)
		}
	}
}

// P3.2, and the chapter's example: written out, in each order.
func TestTakeWrittenOut(t *testing.T) {
	l := []api.Entry{
		{Bound: 5, Depth: 1, No: 0}, {Bound: 3, Depth: 1, No: 1}, {Bound: 3, Depth: 2, No: 2},
		{Bound: 9, Depth: 2, No: 3}, {Bound: 3, Depth: 2, No: 4}, {Bound: -1, Depth: -1, No: 5},
	}
	for _, c := range []struct {
		order int
		nos   []int
	}{
		{api.LeastBound, []int{5, 2, 4, 1, 0, 3}},
		{api.Deepest, []int{2, 4, 3, 1, 0, 5}},
		{api.First, []int{0, 1, 2, 3, 4, 5}},
		{-1, []int{0, 1, 2, 3, 4, 5}},
		{3, []int{0, 1, 2, 3, 4, 5}},
	} {
		h := filled(c.order, []api.Entry{l[3], l[0], l[5], l[4], l[1], l[2]})
		for k, no := range c.nos {
			if h.Len() != len(l)-k {
				t.Errorf("order %d: Len %d, want %d", c.order, h.Len(), len(l)-k)
			}
			if e, is := h.Take(); !is || e != l[no] {
				t.Errorf("order %d: Take %v, %t, want %v", c.order, e, is, l[no])
			}
		}
		mustBeEmpty(t, h)
	}
	h := filled(api.Deepest, []api.Entry{{Depth: 1}, {Depth: 3}, {Depth: 2}})
	for _, depth := range []int{3, 2, 1} {
		if e, is := h.Take(); !is || e.Depth != depth {
			t.Errorf("Deepest: Take %v, %t, want depth %d", e, is, depth)
		}
	}
}

// P3.2: an entry that is put in twice is in it twice.
func TestPutTwice(t *testing.T) {
	twice, other := entry(2, 2, 2), entry(7, 1, 3)
	for _, order := range orders() {
		h := filled(order, []api.Entry{twice, other, twice})
		if h.Len() != 3 {
			t.Errorf("order %d: Len %d, want 3", order, h.Len())
		}
		if got, want := emptied(h), []api.Entry{twice, twice, other}; !slices.Equal(got, want) {
			t.Errorf("order %d: %v, want %v", order, got, want)
		}
		mustBeEmpty(t, h)

		h = filled(order, slices.Repeat([]api.Entry{twice}, 50))
		if got, want := emptied(h), slices.Repeat([]api.Entry{twice}, 50); !slices.Equal(got, want) {
			t.Errorf("order %d: %d came out of 50", order, len(got))
		}
	}
}

// P3.2 (Least): of all, not of the one that comes out first; also where all bounds are above Inf.
func TestLeast(t *testing.T) {
	for _, c := range []struct {
		bounds []int
		least  int
	}{
		{[]int{0}, 0},
		{[]int{5, 3, 9}, 3},
		{[]int{9, 5, 3}, 3},
		{[]int{3, 5, 9}, 3},
		{[]int{-1, -7, 4}, -7},
		{[]int{api.Inf}, api.Inf},
		{[]int{api.Inf, api.Inf - 1}, api.Inf - 1},
		{[]int{api.Inf + 2, api.Inf + 1}, api.Inf + 1},
		{[]int{math.MaxInt, math.MaxInt}, math.MaxInt},
		{[]int{math.MaxInt, math.MinInt, 0}, math.MinInt},
	} {
		for _, order := range orders() {
			h := heap.New(order)
			for k, bound := range c.bounds {
				// The later ones are shallower and have greater numbers: only LeastBound looks at the bound first.
				h.Put(entry(bound, -k, k))
			}
			if h.Least() != c.least || h.Least() != c.least || h.Len() != len(c.bounds) {
				t.Errorf("order %d, bounds %v: Least %d, Len %d", order, c.bounds, h.Least(), h.Len())
			}
		}
	}
}

// P3.2: taken until it is empty, and put in again, several times; the noughts beside a false are not those of the last entry.
func TestEmptyAndPutAgain(t *testing.T) {
	l := everyEntry(-4, 0, 6)
	for _, order := range orders() {
		h := heap.New(order)
		for _, n := range []int{1, 2, len(l), 3, 0, 5} {
			for _, e := range l[:n] {
				h.Put(e)
			}
			if got, want := emptied(h), inOrder(order, l[:n]); !slices.Equal(got, want) {
				t.Errorf("order %d, %d put in: %v, want %v", order, n, got, want)
			}
			mustBeEmpty(t, h)
		}
	}
}

// P3.2, P3.3: however some few entries are put in, with ties among them, they come in order.
func TestEachWayToPutIn(t *testing.T) {
	l := []api.Entry{entry(1, 1, 1), entry(1, 1, 2), entry(1, 2, 1), entry(2, 1, 1), entry(1, 1, 1), entry(2, 2, 2), entry(-1, -1, -1)}
	for _, order := range []int{api.LeastBound, api.Deepest, api.First, 3} {
		want := inOrder(order, l)
		var permute func(k int)
		row := slices.Clone(l)
		permute = func(k int) {
			if k == len(row) {
				if got := emptied(filled(order, row)); !slices.Equal(got, want) {
					t.Fatalf("order %d, put in %v: %v, want %v", order, row, got, want)
				}
				return
			}
			for i := k; i < len(row); i++ {
				row[k], row[i] = row[i], row[k]
				permute(k + 1)
				row[k], row[i] = row[i], row[k]
			}
		}
		permute(0)
	}
}

// P3.3: many entries, put in rising, falling and mixed, come in order; none is lost and none is new.
func TestManyComeInOrder(t *testing.T) {
	row := lcg(1)
	var mixed []api.Entry
	for range 3000 {
		mixed = append(mixed, entry(row.below(40)-20, row.below(12)-3, row.below(200)-50))
	}
	mixed = append(mixed, everyEntry(math.MinInt, math.MinInt+1, -1, 0, api.Inf, math.MaxInt)...)
	for _, order := range orders() {
		rising := inOrder(order, mixed)
		falling := slices.Clone(rising)
		slices.Reverse(falling)
		for _, l := range [][]api.Entry{rising, falling, mixed} {
			if got := emptied(filled(order, l)); !slices.Equal(got, rising) {
				t.Errorf("order %d: not all came, or not in order", order)
			}
		}
	}
}

// model is a heap by P3.2's words: a list that is looked through from end to end.
type model struct {
	order int
	list  []api.Entry
}

func (m *model) take() (api.Entry, bool) {
	if len(m.list) == 0 {
		return api.Entry{}, false
	}
	first := 0
	for i := range m.list {
		if less(m.order, m.list[i], m.list[first]) {
			first = i
		}
	}
	e := m.list[first]
	m.list = slices.Delete(m.list, first, first+1)
	return e, true
}

func (m *model) least() int {
	var bounds []int
	for _, e := range m.list {
		bounds = append(bounds, e.Bound)
	}
	if len(bounds) == 0 {
		return api.Inf
	}
	return slices.Min(bounds)
}

// P3.2: put in and taken by turns, with ties, held against the model behind each call.
func TestPutAndTakeByTurns(t *testing.T) {
	numbers := []int{math.MinInt, -3, 0, 1, 2, 5, api.Inf, api.Inf + 1, math.MaxInt}
	for _, order := range orders() {
		row := lcg(2)
		h, m := heap.New(order), &model{order: order}
		for turn := range 3000 {
			// Stretches that fill it, and stretches that empty it.
			if row.below(10) < 3+4*(turn/150%2) {
				e := entry(numbers[row.below(9)], numbers[row.below(9)], numbers[row.below(9)])
				h.Put(e)
				m.list = append(m.list, e)
			} else {
				got, is := h.Take()
				if want, wanted := m.take(); got != want || is != wanted {
					t.Fatalf("order %d, turn %d: Take %v, %t, want %v, %t", order, turn, got, is, want, wanted)
				}
			}
			if h.Len() != len(m.list) || h.Least() != m.least() {
				t.Fatalf("order %d, turn %d: Len %d, Least %d, want %d, %d", order, turn, h.Len(), h.Least(), len(m.list), m.least())
			}
		}
	}
}

// R5: a heap keeps what was put into it, not what was put into another one.
func TestHeapsAreApart(t *testing.T) {
	a, b := heap.New(api.LeastBound), heap.New(api.Deepest)
	a.Put(entry(1, 1, 1))
	mustBeEmpty(t, b)
	b.Put(entry(4, 1, 2))
	b.Put(entry(9, 5, 3))
	a.Put(entry(0, 0, 4))
	if got, want := emptied(a), []api.Entry{entry(0, 0, 4), entry(1, 1, 1)}; !slices.Equal(got, want) {
		t.Errorf("LeastBound: %v, want %v", got, want)
	}
	if got, want := emptied(b), []api.Entry{entry(9, 5, 3), entry(4, 1, 2)}; !slices.Equal(got, want) {
		t.Errorf("Deepest: %v, want %v", got, want)
	}
}
