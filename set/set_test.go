package set_test

import (
	"math"
	"math/bits"
	"slices"
	"testing"

	"haulier/set"
)

const everyStop = math.MaxUint64

// lcg is a row of numbers that are spread out, the same in each run.
type lcg uint64

func (s *lcg) next() uint64 {
	*s = *s*6364136223846793005 + 1442695040888963407
	// The low bits of such a row repeat soon: only the high ones are taken.
	return uint64(*s) >> 32
}

// sets are some at which something changes, one of each stop, and some spread out, full and sparse.
func sets() []uint64 {
	l := []uint64{0, everyStop, 1<<63 | 1, 10, 14, 112, ^uint64(1), everyStop >> 1, 0x5555555555555555, 0xaaaaaaaaaaaaaaaa, 1<<32 - 1, everyStop - (1<<32 - 1)}
	for i := range 64 {
		l = append(l, 1<<i, ^(uint64(1) << i))
	}
	row := lcg(1)
	for range 100 {
		spread := row.next()<<32 | row.next()
		sparse := spread & (row.next()<<32 | row.next()) & (row.next()<<32 | row.next())
		l = append(l, spread, sparse, ^sparse)
	}
	return l
}

// noStops are numbers that are none, also such as would be one if only some of their bits were looked at.
func noStops() []int {
	l := []int{math.MinInt, math.MinInt + 1, math.MinInt + 63, math.MaxInt - 63, math.MaxInt - 1, math.MaxInt}
	for i := range 64 {
		l = append(l, 64+i, -1-i, -64-i)
	}
	for size := 7; size < 63; size++ {
		l = append(l, 1<<size, 1<<size+5, 1<<size+63, -1<<size, -1<<size+5, -1<<size-63)
	}
	return l
}

func allStops() []int {
	var l []int
	for i := range 64 {
		l = append(l, i)
	}
	return l
}

func numbers() []int { return append(allStops(), noStops()...) }

// in says what the chapter's Words say: a stop is from 0 to 63, and in a set if that bit is 1.
func in(s uint64, i int) bool { return i >= 0 && i <= 63 && s/(1<<uint(i))%2 == 1 }

// made is the set of just those stops that belong.
func made(belongs func(i int) bool) uint64 {
	s := uint64(0)
	for i := 63; i >= 0; i-- {
		s *= 2
		if belongs(i) {
			s++
		}
	}
	return s
}

// P2.1 (Of): ordinary lists, edges, and numbers that are no stops.
func TestOf(t *testing.T) {
	for _, c := range []struct {
		list []int
		want uint64
	}{
		{nil, 0},
		{[]int{}, 0},
		{[]int{0}, 1},
		{[]int{1}, 2},
		{[]int{63}, 1 << 63},
		{[]int{1, 3}, 10},
		{[]int{3, 1}, 10},
		{[]int{3, 3}, 8},
		{[]int{1, 3, 1, 3, 3}, 10},
		{[]int{0, 0, 63, 63, 0}, 1<<63 | 1},
		{[]int{-1}, 0},
		{[]int{64}, 0},
		{[]int{-1, 64}, 0},
		{[]int{1, -1, 3, 64}, 10},
		{[]int{64, 2, -64, 62, 127}, 1<<62 | 4},
		{[]int{math.MinInt, math.MaxInt}, 0},
		{[]int{math.MinInt, 0, math.MaxInt, 63}, 1<<63 | 1},
		{allStops(), everyStop},
		{noStops(), 0},
		{numbers(), everyStop},
		{slices.Repeat([]int{5, 64, 6}, 1000), 96},
	} {
		if got := set.Of(c.list...); got != c.want {
			t.Errorf("Of(%v): %d, want %d", c.list, got, c.want)
		}
	}
	for _, i := range noStops() {
		if got := set.Of(i); got != 0 {
			t.Errorf("Of(%d): %d, want 0", i, got)
		}
	}
}

// R3: what is handed in stays as it was.
func TestOfLeavesItsList(t *testing.T) {
	list := []int{9, -1, 3, math.MaxInt, 3, 0}
	before := slices.Clone(list)
	set.Of(list...)
	if !slices.Equal(list, before) {
		t.Errorf("Of made %v of %v", list, before)
	}
}

// P2.1 (All): written out.
func TestAll(t *testing.T) {
	for _, c := range []struct {
		s    uint64
		want []int
	}{
		{0, nil},
		{1, []int{0}},
		{10, []int{1, 3}},
		{14, []int{1, 2, 3}},
		{112, []int{4, 5, 6}},
		{1 << 63, []int{63}},
		{1<<63 | 1, []int{0, 63}},
		{1<<63 | 10, []int{1, 3, 63}},
		{1<<33 | 1<<32 | 1<<31, []int{31, 32, 33}},
		{everyStop, allStops()},
	} {
		if got := set.All(c.s); !slices.Equal(got, c.want) {
			t.Errorf("All(%d): %v, want %v", c.s, got, c.want)
		}
	}
}

// P2.1 (All, Has, Len): of each set, held against its bits.
func TestWhatIsInASet(t *testing.T) {
	for _, s := range sets() {
		var want []int
		for i := range 64 {
			if in(s, i) {
				want = append(want, i)
			}
		}
		if got := set.All(s); !slices.Equal(got, want) {
			t.Errorf("All(%d): %v, want %v", s, got, want)
		}
		if got := set.Len(s); got != len(want) {
			t.Errorf("Len(%d): %d, want %d", s, got, len(want))
		}
		for _, i := range numbers() {
			if got := set.Has(s, i); got != in(s, i) {
				t.Errorf("Has(%d, %d): %t", s, i, got)
			}
		}
	}
}

// R3, R5: what is answered is the caller's own, and nothing hangs on what was asked before.
func TestAllIsTheCallersOwn(t *testing.T) {
	first, second := set.All(14), set.All(14)
	for i := range first {
		first[i] = 99
	}
	first = append(first, 98)
	if want := []int{1, 2, 3}; len(first) != 4 || !slices.Equal(second, want) || !slices.Equal(set.All(14), want) {
		t.Errorf("All(14): %v, then %v", second, set.All(14))
	}
}

// P2.1 (Has): written out.
func TestHas(t *testing.T) {
	for _, c := range []struct {
		s    uint64
		i    int
		want bool
	}{
		{10, 3, true}, {10, 1, true}, {10, 2, false}, {10, 0, false}, {10, 4, false},
		{0, 0, false}, {0, 63, false}, {1, 0, true}, {1, 63, false},
		{1 << 63, 63, true}, {1 << 63, 0, false}, {1 << 63, -1, false},
		{everyStop, 0, true}, {everyStop, 63, true}, {everyStop, 64, false}, {everyStop, -1, false},
		{everyStop, 127, false}, {everyStop, -64, false}, {everyStop, 256, false}, {everyStop, 1 << 32, false},
		{everyStop, math.MinInt, false}, {everyStop, math.MaxInt, false},
	} {
		if got := set.Has(c.s, c.i); got != c.want {
			t.Errorf("Has(%d, %d): %t", c.s, c.i, got)
		}
	}
}

// P2.1 (Len): written out.
func TestLen(t *testing.T) {
	for _, c := range []struct {
		s    uint64
		want int
	}{{0, 0}, {1, 1}, {10, 2}, {14, 3}, {1 << 63, 1}, {1<<63 | 1, 2}, {everyStop >> 1, 63}, {everyStop, 64}} {
		if got := set.Len(c.s); got != c.want {
			t.Errorf("Len(%d): %d, want %d", c.s, got, c.want)
		}
	}
}

// P2.1 (Within): written out.
func TestWithin(t *testing.T) {
	for _, c := range []struct {
		s, t uint64
		want bool
	}{
		{0, 0, true}, {0, 10, true}, {10, 0, false}, {10, 10, true},
		{10, 14, true}, {14, 10, false}, {10, 8, false}, {8, 10, true}, {10, 5, false}, {3, 6, false},
		{0, everyStop, true}, {everyStop, 0, false}, {everyStop, everyStop, true},
		{everyStop, everyStop >> 1, false}, {everyStop >> 1, everyStop, true}, {everyStop, ^uint64(1), false},
		{1 << 63, 1, false}, {1, 1 << 63, false}, {1 << 63, 1<<63 | 1, true}, {1<<63 | 1, 1 << 63, false},
	} {
		if got := set.Within(c.s, c.t); got != c.want {
			t.Errorf("Within(%d, %d): %t", c.s, c.t, got)
		}
	}
}

// P2.1 (Within): of each two sets, asked stop by stop.
func TestWithinStopByStop(t *testing.T) {
	for _, s := range sets() {
		for _, u := range sets() {
			want := true
			for i := range 64 {
				want = want && (!in(s, i) || in(u, i))
			}
			if got := set.Within(s, u); got != want {
				t.Errorf("Within(%d, %d): %t", s, u, got)
			}
		}
	}
}

// P2.2 (With, Without): written out.
func TestWithAndWithout(t *testing.T) {
	for _, c := range []struct {
		s             uint64
		i             int
		with, without uint64
	}{
		{8, 1, 10, 8},
		{10, 1, 10, 8},
		{10, 2, 14, 10},
		{0, 0, 1, 0},
		{0, 63, 1 << 63, 0},
		{1<<63 | 1, 0, 1<<63 | 1, 1 << 63},
		{1<<63 | 1, 63, 1<<63 | 1, 1},
		{everyStop, 0, everyStop, ^uint64(1)},
		{everyStop, 63, everyStop, everyStop >> 1},
		{0, -1, 0, 0},
		{0, 64, 0, 0},
		{8, -1, 8, 8},
		{8, 64, 8, 8},
		{8, 67, 8, 8},
		{8, -61, 8, 8},
		{8, math.MinInt, 8, 8},
		{8, math.MaxInt, 8, 8},
		{everyStop, -1, everyStop, everyStop},
		{everyStop, 64, everyStop, everyStop},
		{everyStop, math.MinInt, everyStop, everyStop},
		{everyStop, math.MaxInt, everyStop, everyStop},
	} {
		if got := set.With(c.s, c.i); got != c.with {
			t.Errorf("With(%d, %d): %d, want %d", c.s, c.i, got, c.with)
		}
		if got := set.Without(c.s, c.i); got != c.without {
			t.Errorf("Without(%d, %d): %d, want %d", c.s, c.i, got, c.without)
		}
	}
}

// P2.2 (With, Without): of each set and each number, made stop by stop.
func TestWithAndWithoutStopByStop(t *testing.T) {
	for _, s := range sets() {
		for _, i := range numbers() {
			if got, want := set.With(s, i), made(func(k int) bool { return in(s, k) || k == i }); got != want {
				t.Errorf("With(%d, %d): %d, want %d", s, i, got, want)
			}
			if got, want := set.Without(s, i), made(func(k int) bool { return in(s, k) && k != i }); got != want {
				t.Errorf("Without(%d, %d): %d, want %d", s, i, got, want)
			}
		}
	}
}

// P2.2 (Upto): written out, and of each number.
func TestUpto(t *testing.T) {
	for _, c := range []struct {
		n    int
		want uint64
	}{
		{math.MinInt, 0}, {-64, 0}, {-63, 0}, {-1, 0}, {0, 0},
		{1, 2}, {2, 6}, {3, 14}, {31, 1<<32 - 2}, {32, 1<<33 - 2}, {62, 1<<63 - 2},
		{63, ^uint64(1)}, {64, ^uint64(1)}, {65, ^uint64(1)}, {99, ^uint64(1)}, {128, ^uint64(1)}, {1 << 32, ^uint64(1)}, {math.MaxInt, ^uint64(1)},
	} {
		if got := set.Upto(c.n); got != c.want {
			t.Errorf("Upto(%d): %d, want %d", c.n, got, c.want)
		}
	}
	for _, n := range numbers() {
		if got, want := set.Upto(n), made(func(i int) bool { return 1 <= i && i <= n }); got != want {
			t.Errorf("Upto(%d): %d, want %d", n, got, want)
		}
	}
}

// P2.2 (Shift): written out.
func TestShift(t *testing.T) {
	for _, c := range []struct {
		s    uint64
		by   int
		want uint64
	}{
		{14, 3, 112}, {112, -3, 14}, {14, 0, 14}, {0, 0, 0}, {0, 5, 0}, {0, -5, 0}, {everyStop, 0, everyStop},
		{14, -1, 7}, {14, -2, 3}, {14, -3, 1}, {14, -4, 0},
		{14, 60, 7 << 61}, {14, 61, 3 << 62}, {14, 62, 1 << 63}, {14, 63, 0},
		{1, 63, 1 << 63}, {3, 63, 1 << 63}, {1 << 63, -63, 1}, {3 << 62, -63, 1}, {1 << 62, -63, 0},
		{1, -1, 0}, {1 << 63, 1, 0}, {1<<63 | 1, 1, 2}, {1<<63 | 1, -1, 1 << 62},
		{everyStop, 1, everyStop - 1}, {everyStop, -1, everyStop >> 1},
		{everyStop, 63, 1 << 63}, {everyStop, -63, 1},
		{everyStop, 64, 0}, {everyStop, -64, 0}, {1, 64, 0}, {1 << 63, -64, 0},
		{everyStop, 65, 0}, {everyStop, -65, 0}, {everyStop, 128, 0}, {everyStop, -128, 0},
		{everyStop, 1 << 32, 0}, {everyStop, -1 << 32, 0},
		{everyStop, math.MaxInt, 0}, {everyStop, math.MinInt, 0}, {everyStop, math.MinInt + 1, 0},
	} {
		if got := set.Shift(c.s, c.by); got != c.want {
			t.Errorf("Shift(%d, %d): %d, want %d", c.s, c.by, got, c.want)
		}
	}
}

// shifted says what P2.2 asks for, stop by stop; what is more than 63 away reaches none from any stop.
func shifted(s uint64, by int) uint64 {
	if by < -63 || by > 63 {
		return 0
	}
	return made(func(i int) bool { return in(s, i-by) })
}

// P2.2 (Shift): of each set, by each number.
func TestShiftStopByStop(t *testing.T) {
	for _, s := range sets() {
		for _, by := range numbers() {
			if got, want := set.Shift(s, by), shifted(s, by); got != want {
				t.Errorf("Shift(%d, %d): %d, want %d", s, by, got, want)
			}
		}
	}
}

// P2.3: all of a set are just what makes it.
func TestAllMakesTheSet(t *testing.T) {
	for _, s := range sets() {
		if got := set.Of(set.All(s)...); got != s {
			t.Errorf("Of(All(%d)): %d", s, got)
		}
	}
	row := lcg(2)
	for range 500 {
		var list, want []int
		for range row.next() % 12 {
			i := int(row.next()%80) - 8
			list = append(list, i)
			if i >= 0 && i <= 63 {
				want = append(want, i)
			}
		}
		slices.Sort(want)
		want = slices.Compact(want)
		if got := set.All(set.Of(list...)); !slices.Equal(got, want) {
			t.Errorf("All(Of(%v)): %v, want %v", list, got, want)
		}
	}
}

// P2.3: With and Without undo each other, where the stop was not in the set.
func TestWithAndWithoutUndoEachOther(t *testing.T) {
	for _, s := range sets() {
		for i := range 64 {
			if in(s, i) {
				if got := set.With(set.Without(s, i), i); got != s {
					t.Errorf("With(Without(%d, %d), %d): %d", s, i, i, got)
				}
				continue
			}
			with := set.With(s, i)
			if !set.Has(with, i) || set.Len(with) != set.Len(s)+1 {
				t.Errorf("With(%d, %d): %d", s, i, with)
			}
			if got := set.Without(with, i); got != s {
				t.Errorf("Without(With(%d, %d), %d): %d", s, i, i, got)
			}
		}
	}
}

// P2.3: what is shifted there and back loses only what was no stop on the way.
func TestShiftThereAndBack(t *testing.T) {
	for _, s := range sets() {
		for by := -70; by <= 70; by++ {
			want := made(func(i int) bool { return in(s, i) && i+by >= 0 && i+by <= 63 })
			there := set.Shift(s, by)
			if got := set.Shift(there, -by); got != want {
				t.Errorf("Shift(Shift(%d, %d), %d): %d, want %d", s, by, -by, got, want)
			}
			if bits.OnesCount64(there) != bits.OnesCount64(want) {
				t.Errorf("Shift(%d, %d): %d has not as many as are left", s, by, there)
			}
		}
	}
}
