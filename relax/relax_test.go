package relax_test

import (
	"fmt"
	"math"
	"math/bits"
	"reflect"
	"slices"
	"testing"

	"haulier/api"
	"haulier/inst"
	"haulier/relax"
	"haulier/state"
)

const all = math.MaxUint64

// lcg is a row of numbers that are spread out, the same in each run.
type lcg uint64

func (s *lcg) below(n int) int {
	*s = *s*6364136223846793005 + 1442695040888963407
	// The low bits of such a row repeat soon: only the high ones are taken.
	return int(uint64(*s) >> 33 % uint64(n))
}

// set is any one: sparse, full, or between.
func (s *lcg) set() uint64 {
	spread := func() uint64 { return uint64(s.below(1<<31))<<33 ^ uint64(s.below(1<<31))<<16 ^ uint64(s.below(1<<31)) }
	switch s.below(4) {
	case 0:
		return spread() & spread()
	case 1:
		return spread() | spread() | spread()
	}
	return spread()
}

// but is s after a change.
func but(s api.State, change func(s *api.State)) api.State {
	change(&s)
	return s
}

// of is a set, made by hand.
func of(l ...int) uint64 {
	var s uint64
	for _, i := range l {
		s |= 1 << i
	}
	return s
}

// in tells whether i is in a set.
func in(s uint64, i int) bool { return s>>i&1 == 1 }

type numberOf struct {
	name string
	at   func(s *api.State) *int
}

// numbers are those of which the least covers the others.
func numbers() []numberOf {
	return []numberOf{
		{"Car", func(s *api.State) *int { return &s.Car }},
		{"Time", func(s *api.State) *int { return &s.Time }},
		{"Load", func(s *api.State) *int { return &s.Load }},
		{"First", func(s *api.State) *int { return &s.First }},
	}
}

// with is s, and n as that number of it.
func (f numberOf) with(s api.State, n int) api.State {
	*f.at(&s) = n
	return s
}

type setOf struct {
	name string
	at   func(s *api.State) *uint64
	// more tells that the greater set covers the lesser one, and not the other way round.
	more bool
}

func sets() []setOf {
	return []setOf{
		{"Must", func(s *api.State) *uint64 { return &s.Must }, false},
		{"On", func(s *api.State) *uint64 { return &s.On }, false},
		{"May", func(s *api.State) *uint64 { return &s.May }, true},
	}
}

// with is s, and that set of it.
func (f setOf) with(s api.State, set uint64) api.State {
	*f.at(&s) = set
	return s
}

// edges are numbers at which something could change, the least and the greatest that there are among them.
func edges() []int {
	return []int{
		math.MinInt, math.MinInt + 1, -1 << 62, -1<<32 - 1, -1 << 32, -1 << 31, -256, -2, -1,
		0, 1, 2, 255, 256, 1 << 30, 1<<31 - 1, 1 << 31, 1 << 32, 1<<32 + 1, 1 << 62, math.MaxInt - 1, math.MaxInt,
	}
}

// middle is a state that has some of all.
func middle() api.State {
	return api.State{At: 4, Car: 3, Time: 50, Load: 6, First: 2, Must: of(0, 1, 4, 63), May: of(0, 1, 4, 5, 63), On: of(0, 1, 63)}
}

// looser covers middle, and is better in each part but At: its numbers are less, Must and On have less, May has more.
func looser() api.State {
	return api.State{At: 4, Car: 2, Time: 49, Load: 5, First: 1, Must: of(0, 4), May: of(0, 1, 4, 5, 6, 62, 63), On: of(1)}
}

// asSaid tells whether a covers b, by the chapter's words, stop by stop.
func asSaid(a, b api.State) bool {
	for i := range 64 {
		if in(a.Must, i) && !in(b.Must, i) || in(a.On, i) && !in(b.On, i) || in(b.May, i) && !in(a.May, i) {
			return false
		}
	}
	return a.At == b.At && !(a.Car > b.Car || a.Time > b.Time || a.Load > b.Load || a.First > b.First)
}

// joinedAsSaid is what Join answers by the chapter's words, stop by stop.
func joinedAsSaid(l []api.State) (api.State, bool) {
	if len(l) == 0 {
		return api.State{}, false
	}
	least := func(f numberOf) int {
		n := *f.at(&l[0])
		for _, s := range l {
			if m := *f.at(&s); m < n {
				n = m
			}
		}
		return n
	}
	// howMany have a stop in a set.
	howMany := func(f setOf, i int) int {
		n := 0
		for _, s := range l {
			if in(*f.at(&s), i) {
				n++
			}
		}
		return n
	}
	want := api.State{At: l[0].At}
	for _, s := range l {
		if s.At != want.At {
			return api.State{}, false
		}
	}
	for _, f := range numbers() {
		*f.at(&want) = least(f)
	}
	for _, f := range sets() {
		for i := range 64 {
			if n := howMany(f, i); n == len(l) || f.more && n > 0 {
				*f.at(&want) |= 1 << i
			}
		}
	}
	return want, true
}

// mustCover asks whether a covers b.
func mustCover(t *testing.T, what string, a, b api.State, want bool) {
	t.Helper()
	if got := relax.Covers(a, b); got != want {
		t.Errorf("%s: Covers: %t; want %t; of\n%+v and\n%+v", what, got, want, a, b)
	}
}

// mustJoin asks for just this state, and that the list stays as it was.
func mustJoin(t *testing.T, what string, l []api.State, want api.State) {
	t.Helper()
	mustAnswer(t, what, l, want, true)
}

// mustNotJoin asks for noughts and false, and that the list stays as it was.
func mustNotJoin(t *testing.T, what string, l []api.State) {
	t.Helper()
	mustAnswer(t, what, l, api.State{}, false)
}

func mustAnswer(t *testing.T, what string, l []api.State, want api.State, wantIs bool) {
	t.Helper()
	was := slices.Clone(l)
	if got, is := relax.Join(l...); got != want || is != wantIs {
		t.Errorf("%s: Join: %+v, %t; want\n%+v, %t; of %d: %+v", what, got, is, want, wantIs, len(l), few(l))
	}
	if !slices.Equal(l, was) {
		t.Errorf("%s: the list is now %+v, it was %+v", what, few(l), few(was))
	}
}

// few are the first ones of many, to be told.
func few(l []api.State) []api.State { return l[:min(len(l), 8)] }

// joined is what some states are, thrown together, that are at one stop.
func joined(t *testing.T, l ...api.State) api.State {
	t.Helper()
	s, is := relax.Join(l...)
	if !is {
		t.Fatalf("they can't be thrown together: %+v", few(l))
	}
	return s
}

// someState is any state of few kinds of numbers, so that one often covers another one.
func someState(s *lcg) api.State {
	set := func() uint64 { return []uint64{0, of(0), of(63), of(0, 63), of(0, 5, 63), all}[s.below(6)] }
	number := func() int { return s.below(3) - 1 }
	return api.State{At: 3, Car: number(), Time: number(), Load: number(), First: number(), Must: set(), May: set(), On: set()}
}

// anyState is one of all kinds of numbers and sets.
func anyState(s *lcg) api.State {
	number := func() int {
		if s.below(3) > 0 {
			return s.below(9) - 4
		}
		return edges()[s.below(len(edges()))]
	}
	return api.State{At: s.below(5) - 1, Car: number(), Time: number(), Load: number(), First: number(), Must: s.set(), May: s.set(), On: s.set()}
}

// near is another one that is like y in most parts, or a little above or below it.
func near(s *lcg, y api.State) api.State {
	for _, f := range numbers() {
		if s.below(3) == 0 {
			*f.at(&y) += []int{-1, -1, -1, 1}[s.below(4)]
		}
	}
	for _, f := range sets() {
		switch s.below(8) {
		case 0:
			*f.at(&y) ^= 1 << s.below(64)
		case 1:
			*f.at(&y) &= s.set()
		case 2:
			*f.at(&y) |= s.set()
		}
	}
	if s.below(16) == 0 {
		y.At += 2*s.below(2) - 1
	}
	return y
}

// P11.1, P11.2: the chapter's example, and each way round.
func TestExample(t *testing.T) {
	a := api.State{At: 7, Car: 1, Time: 5, Must: of(1, 2), May: of(1, 2)}
	b := api.State{At: 7, Car: 1, Time: 4, Must: of(1, 3), May: of(1, 3)}
	s := api.State{At: 7, Car: 1, Time: 4, Must: of(1), May: of(1, 2, 3)}
	mustJoin(t, "example", []api.State{a, b}, s)
	mustJoin(t, "the other way round", []api.State{b, a}, s)
	mustCover(t, "joined, the first one", s, a, true)
	mustCover(t, "joined, the second one", s, b, true)
	mustCover(t, "the first one, joined", a, s, false)
	mustCover(t, "the second one, joined", b, s, false)
	mustCover(t, "the first one, the second one", a, b, false)
	mustCover(t, "the second one, the first one", b, a, false)
}

// P11.1: each state covers itself, whatever it is.
func TestCoversItself(t *testing.T) {
	l := []api.State{{}, middle(), looser(), {Must: all, May: all, On: all}, {Must: of(3)}, {On: of(3)}, {May: of(3)}}
	for _, n := range edges() {
		l = append(l, api.State{At: n, Car: n, Time: n, Load: n, First: n}, api.State{At: n, Car: -n, Time: n, Load: -n, First: n, Must: all, May: all, On: all})
	}
	s := lcg(1)
	for range 200 {
		l = append(l, anyState(&s))
	}
	for _, y := range l {
		mustCover(t, "itself", y, y, true)
	}
}

// P11.1: At must be the same; all else is the same, or better.
func TestCoversAt(t *testing.T) {
	for _, m := range edges() {
		for _, n := range edges() {
			at := func(s api.State, n int) api.State { return but(s, func(s *api.State) { s.At = n }) }
			mustCover(t, fmt.Sprint("At ", m, " and ", n), at(middle(), m), at(middle(), n), m == n)
			mustCover(t, fmt.Sprint("better, At ", m, " and ", n), at(looser(), m), at(middle(), n), m == n)
			mustCover(t, fmt.Sprint("noughts, At ", m, " and ", n), api.State{At: m}, api.State{At: n}, m == n)
		}
	}
}

// P11.1: each of Car, Time, Load and First must not be above the other one's; all else is the same, or better.
func TestCoversNumbers(t *testing.T) {
	for _, f := range numbers() {
		for _, m := range edges() {
			for _, n := range edges() {
				what := fmt.Sprint(f.name, " ", m, " and ", n)
				mustCover(t, what, f.with(middle(), m), f.with(middle(), n), m <= n)
				mustCover(t, "better, "+what, f.with(looser(), m), f.with(middle(), n), m <= n)
				mustCover(t, "noughts, "+what, f.with(api.State{}, m), f.with(api.State{}, n), m <= n)
			}
		}
		s := middle()
		n := *f.at(&s)
		for _, by := range []int{-1, 0, 1} {
			mustCover(t, fmt.Sprint(f.name, " is more by ", by), f.with(middle(), n+by), middle(), by <= 0)
			mustCover(t, fmt.Sprint("the other one's ", f.name, " is more by ", by), middle(), f.with(middle(), n+by), by >= 0)
		}
	}
}

// P11.1: Must and On must be within the other one's, and May must have the other one's in it; with one stop too many or too few, 0 and 63 and all of them, too.
func TestCoversSets(t *testing.T) {
	l := []uint64{0, of(1), of(1, 2), of(2, 3), of(1, 2, 3), of(0), of(63), of(0, 63), of(31, 32), 1<<32 - 1, all &^ (1<<32 - 1), 0x5555555555555555, 0xaaaaaaaaaaaaaaaa, all}
	for i := range 64 {
		l = append(l, of(i), all&^of(i), of(1, 2)|of(i), of(1, 2, i)&^of(i))
	}
	within := func(s, u uint64) bool {
		for i := range 64 {
			if in(s, i) && !in(u, i) {
				return false
			}
		}
		return true
	}
	for _, f := range sets() {
		for _, m := range l {
			for _, n := range l {
				want := within(m, n)
				if f.more {
					want = within(n, m)
				}
				what := fmt.Sprintf("%s %b and %b", f.name, m, n)
				mustCover(t, what, f.with(middle(), m), f.with(middle(), n), want)
				mustCover(t, "better, "+what, f.with(looser(), m), f.with(middle(), n), want)
			}
		}
	}
}

// P11.1: written out: of each set, within the other one's, the same, and not.
func TestCoversSetsWrittenOut(t *testing.T) {
	for _, c := range []struct {
		what    string
		m, n    uint64
		lessIs  bool
		otherIs bool
	}{
		{"the same", of(1, 2), of(1, 2), true, true},
		{"none", 0, 0, true, true},
		{"all", all, all, true, true},
		{"one less", of(1), of(1, 2), true, false},
		{"one more", of(1, 2), of(1), false, true},
		{"none and some", 0, of(5), true, false},
		{"some and all", of(5), all, true, false},
		{"all but 0", all &^ of(0), all, true, false},
		{"all but 63", all &^ of(63), all, true, false},
		{"all, and all but 0", all, all &^ of(0), false, true},
		{"all, and all but 63", all, all &^ of(63), false, true},
		{"0 and 63", of(0), of(63), false, false},
		{"one more and one less", of(1, 2), of(1, 3), false, false},
		{"nothing of both", of(1, 2), of(3, 4), false, false},
	} {
		s := middle()
		mustCover(t, "Must: "+c.what, but(s, func(s *api.State) { s.Must = c.m }), but(s, func(s *api.State) { s.Must = c.n }), c.lessIs)
		mustCover(t, "On: "+c.what, but(s, func(s *api.State) { s.On = c.m }), but(s, func(s *api.State) { s.On = c.n }), c.lessIs)
		mustCover(t, "May: "+c.what, but(s, func(s *api.State) { s.May = c.m }), but(s, func(s *api.State) { s.May = c.n }), c.otherIs)
	}
}

// P11.1: each part wrong alone, and all the others better.
func TestCoversEachPartAlone(t *testing.T) {
	a, b := looser(), middle()
	mustCover(t, "all better", a, b, true)
	mustCover(t, "all worse", b, a, false)
	for _, n := range []int{-1, 3, 5, math.MinInt, math.MaxInt} {
		mustCover(t, "At", but(a, func(s *api.State) { s.At = n }), b, false)
	}
	for _, f := range numbers() {
		n := *f.at(&b)
		mustCover(t, f.name+" the same", f.with(a, n), b, true)
		mustCover(t, f.name+" one above", f.with(a, n+1), b, false)
		mustCover(t, f.name+" below 0", f.with(a, -1), b, true)
		mustCover(t, f.name+" the least", f.with(a, math.MinInt), b, true)
		mustCover(t, f.name+" the greatest", f.with(a, math.MaxInt), b, false)
		mustCover(t, f.name+" of the other one the least", a, f.with(b, math.MinInt), false)
	}
	for i := range 64 {
		mustCover(t, fmt.Sprint("Must, and ", i), but(a, func(s *api.State) { s.Must |= of(i) }), b, in(b.Must, i))
		mustCover(t, fmt.Sprint("On, and ", i), but(a, func(s *api.State) { s.On |= of(i) }), b, in(b.On, i))
		mustCover(t, fmt.Sprint("May, without ", i), but(a, func(s *api.State) { s.May &^= of(i) }), b, !in(b.May, i))
	}
	mustCover(t, "Must is all", but(a, func(s *api.State) { s.Must = all }), b, false)
	mustCover(t, "On is all", but(a, func(s *api.State) { s.On = all }), b, false)
	mustCover(t, "May has none", but(a, func(s *api.State) { s.May = 0 }), b, false)
	mustCover(t, "Must and On have none, May all", but(a, func(s *api.State) { s.Must, s.On, s.May = 0, 0, all }), b, true)
	// Neither number stands for another one, nor set for another one.
	for i, f := range numbers() {
		for k, g := range numbers() {
			if i != k {
				mustCover(t, f.name+" and "+g.name, f.with(api.State{}, 1), g.with(api.State{}, 1), false)
			}
		}
	}
	for i, f := range sets()[:2] {
		mustCover(t, f.name+" and the other one", f.with(api.State{}, 1), sets()[1-i].with(api.State{}, 1), false)
		mustCover(t, f.name+" and May", f.with(api.State{}, 1), api.State{May: 1}, false)
		mustCover(t, "May and "+f.name, api.State{May: 1}, f.with(api.State{}, 1), true)
	}
}

// P11.1: many states, held against the chapter's words.
func TestCoversMany(t *testing.T) {
	s := lcg(2)
	seen := map[bool]int{}
	for range 20000 {
		b := anyState(&s)
		for _, a := range []api.State{near(&s, b), anyState(&s)} {
			want := asSaid(a, b)
			mustCover(t, "many", a, b, want)
			mustCover(t, "many, the other way round", b, a, asSaid(b, a))
			seen[want]++
		}
	}
	if seen[true] < 500 || seen[false] < 500 {
		t.Errorf("too few of a kind: %v", seen)
	}
}

// P11.2: of none, noughts and false.
func TestJoinOfNone(t *testing.T) {
	if s, is := relax.Join(); s != (api.State{}) || is {
		t.Errorf("none: %+v, %t", s, is)
	}
	mustNotJoin(t, "nil", nil)
	mustNotJoin(t, "empty", []api.State{})
	mustNotJoin(t, "empty, with others behind it", []api.State{middle(), looser()}[:0])
}

// P11.2: of one, or of the same one several times, that one, whatever it is; noughts, too, and true.
func TestJoinOfTheSame(t *testing.T) {
	l := []api.State{{}, middle(), looser(), {Must: all, May: all, On: all}, {At: math.MinInt}, {At: -1}, {At: 64}, {At: math.MaxInt}}
	for _, n := range edges() {
		l = append(l, api.State{At: n, Car: n, Time: n, Load: n, First: n, Must: 5, May: 6, On: 7})
	}
	s := lcg(3)
	for range 100 {
		l = append(l, anyState(&s))
	}
	for _, y := range l {
		for _, times := range []int{1, 2, 3, 10} {
			mustJoin(t, fmt.Sprint(times, " times"), slices.Repeat([]api.State{y}, times), y)
		}
	}
	if s, is := relax.Join(api.State{}); s != (api.State{}) || !is {
		t.Errorf("noughts: %+v, %t", s, is)
	}
}

// P11.2: At that differs in one place: noughts and false.
func TestJoinOfTwoStops(t *testing.T) {
	for _, n := range []int{0, 3, 5, -4, 4 + 1<<32, -4 - 1<<32, math.MinInt, math.MaxInt} {
		other := but(middle(), func(s *api.State) { s.At = n })
		for _, many := range []int{2, 3, 4, 7, 100} {
			for i := range many {
				l := slices.Repeat([]api.State{middle()}, many)
				l[i] = other
				mustNotJoin(t, fmt.Sprint(i, " of ", many, " at ", n), l)
				for k := range l {
					if k != i {
						l[k] = looser()
					}
				}
				mustNotJoin(t, fmt.Sprint(i, " of ", many, " at ", n, ", others"), l)
			}
		}
	}
	mustNotJoin(t, "all at other stops", []api.State{{At: 1}, {At: 2}, {At: 3}})
	mustNotJoin(t, "two and two", []api.State{{At: 1}, {At: 2}, {At: 1}, {At: 2}})
	mustNotJoin(t, "beside noughts", []api.State{middle(), {}})
	mustNotJoin(t, "noughts first", []api.State{{}, middle()})
	mustNotJoin(t, "one that covers it but for At", []api.State{middle(), but(looser(), func(s *api.State) { s.At++ })})
}

// P11.2: the least of each of Car, Time, Load and First, wherever it stands; nothing else changes.
func TestJoinNumbers(t *testing.T) {
	for _, f := range numbers() {
		for _, m := range edges() {
			for _, n := range edges() {
				what := fmt.Sprint(f.name, " ", m, " and ", n)
				want := f.with(middle(), min(m, n))
				mustJoin(t, what, []api.State{f.with(middle(), m), f.with(middle(), n)}, want)
				mustJoin(t, what+" and a greater one", []api.State{f.with(middle(), math.MaxInt), f.with(middle(), m), f.with(middle(), n)}, want)
			}
		}
		for _, many := range []int{2, 3, 4, 9} {
			for i := range many {
				l := slices.Repeat([]api.State{middle()}, many)
				for k := range l {
					*f.at(&l[k]) = 10 + k
				}
				for _, n := range []int{-1, 0, 9, math.MinInt} {
					*f.at(&l[i]) = n
					mustJoin(t, fmt.Sprint(f.name, " ", n, " in ", i, " of ", many), l, f.with(middle(), n))
				}
			}
		}
	}
	// Each is the least in another one.
	mustJoin(t, "each in another one", []api.State{
		{At: 2, Car: 1, Time: 9, Load: 8, First: 7},
		{At: 2, Car: 2, Time: 3, Load: 9, First: 8},
		{At: 2, Car: 3, Time: 8, Load: 4, First: 9},
		{At: 2, Car: 4, Time: 7, Load: 7, First: 5},
	}, api.State{At: 2, Car: 1, Time: 3, Load: 4, First: 5})
}

// P11.2: Must and On that all have, that some have, that none has; May that one has; nothing else changes.
func TestJoinSets(t *testing.T) {
	for _, f := range sets() {
		for _, many := range []int{2, 3, 5} {
			// Of each stop from 0 to 63, some have it: each choice of those who do is tried at each stop.
			for choice := range 1 << many {
				for i := range 64 {
					l := make([]api.State, many)
					for k := range l {
						l[k] = f.with(middle(), of(7, 9, 50)&^of(i))
						if in(uint64(choice), k) {
							*f.at(&l[k]) |= of(i)
						}
					}
					want := f.with(middle(), of(7, 9, 50)&^of(i))
					if f.more && choice > 0 || choice == 1<<many-1 {
						*f.at(&want) |= of(i)
					}
					mustJoin(t, fmt.Sprintf("%s: %d in %b", f.name, i, choice), l, want)
				}
			}
		}
	}
}

// P11.2: sets, written out.
func TestJoinSetsWrittenOut(t *testing.T) {
	for _, c := range []struct {
		what   string
		l      []uint64
		allHas uint64
		oneHas uint64
	}{
		{"none has any", []uint64{0, 0}, 0, 0},
		{"all have all", []uint64{all, all, all}, all, all},
		{"one has all", []uint64{0, all}, 0, all},
		{"one has none", []uint64{all, all, 0}, 0, all},
		{"some", []uint64{of(1, 2), of(1, 3)}, of(1), of(1, 2, 3)},
		{"nothing of both", []uint64{of(1), of(2)}, 0, of(1, 2)},
		{"0 and 63", []uint64{of(0, 63), of(63), of(63, 0)}, of(63), of(0, 63)},
		{"each lacks one", []uint64{of(1, 2, 4), of(1, 3, 4), of(2, 3, 4)}, of(4), of(1, 2, 3, 4)},
		{"all but one each", []uint64{all &^ of(0), all &^ of(63)}, all &^ of(0, 63), all},
	} {
		var l []api.State
		for _, s := range c.l {
			l = append(l, api.State{At: 1, Must: s, May: s, On: s})
		}
		mustJoin(t, c.what, l, api.State{At: 1, Must: c.allHas, May: c.oneHas, On: c.allHas})
		slices.Reverse(l)
		mustJoin(t, c.what+", the other way round", l, api.State{At: 1, Must: c.allHas, May: c.oneHas, On: c.allHas})
	}
	// No set stands for another one.
	mustJoin(t, "each its own", []api.State{
		{Must: of(1, 2, 3), May: of(4, 5), On: of(6, 7, 8)},
		{Must: of(2, 3, 9), May: of(10), On: of(7, 8, 11)},
	}, api.State{Must: of(2, 3), May: of(4, 5, 10), On: of(7, 8)})
}

// P11.2: two and three that differ in all parts, written out, in each order.
func TestJoinWrittenOut(t *testing.T) {
	a := api.State{At: 4, Car: 2, Time: 5, Load: 1, First: 2, Must: of(1, 2), May: of(1, 2), On: of(1)}
	b := api.State{At: 4, Car: 1, Time: 7, Load: 0, First: 1, Must: of(1, 3), May: of(1, 3), On: of(1, 3)}
	c := api.State{At: 4, Car: 3, Time: -6, Load: 2, First: 9, Must: of(2, 3, 5), May: of(8), On: of(3, 5)}
	ab := api.State{At: 4, Car: 1, Time: 5, Load: 0, First: 1, Must: of(1), May: of(1, 2, 3), On: of(1)}
	ac := api.State{At: 4, Car: 2, Time: -6, Load: 1, First: 2, Must: of(2), May: of(1, 2, 8), On: 0}
	bc := api.State{At: 4, Car: 1, Time: -6, Load: 0, First: 1, Must: of(3), May: of(1, 3, 8), On: of(3)}
	abc := api.State{At: 4, Car: 1, Time: -6, Load: 0, First: 1, Must: 0, May: of(1, 2, 3, 8), On: 0}
	mustJoin(t, "two", []api.State{a, b}, ab)
	mustJoin(t, "two", []api.State{b, a}, ab)
	mustJoin(t, "two", []api.State{a, c}, ac)
	mustJoin(t, "two", []api.State{c, a}, ac)
	mustJoin(t, "two", []api.State{b, c}, bc)
	mustJoin(t, "two", []api.State{c, b}, bc)
	for _, l := range [][]api.State{{a, b, c}, {a, c, b}, {b, a, c}, {b, c, a}, {c, a, b}, {c, b, a}, {a, a, b, c, c}, {c, b, a, b, c}, {ab, c}, {a, bc}, {ab, ac, bc}} {
		mustJoin(t, "three", l, abc)
	}
	mustJoin(t, "middle and looser", []api.State{middle(), looser()}, looser())
}

// P11.2: many lists, of few and of many states, held against the chapter's words.
func TestJoinMany(t *testing.T) {
	s := lcg(4)
	seen := map[bool]int{}
	for turn := range 4000 {
		l := []api.State{anyState(&s)}
		for range s.below(2 + turn%12) {
			y := anyState(&s)
			if s.below(3) > 0 {
				y = near(&s, l[s.below(len(l))])
			}
			if s.below(6) > 0 {
				y.At = l[0].At
			}
			l = append(l, y)
		}
		want, is := joinedAsSaid(l)
		mustAnswer(t, "many", l, want, is)
		seen[is]++
	}
	if seen[true] < 500 || seen[false] < 500 {
		t.Errorf("too few of a kind: %v", seen)
	}
	var l []api.State
	for range 1 << 17 {
		l = append(l, but(anyState(&s), func(s *api.State) { s.At, s.Must, s.May = 9, s.Must|of(0, 40), s.May&^of(0, 40) }))
	}
	want, is := joinedAsSaid(l)
	if !is || want.Must != of(0, 40) || want.May != all&^of(0, 40) {
		t.Fatalf("very many: %+v, %t", want, is)
	}
	mustJoin(t, "very many", l, want)
	l[len(l)-1].At = 8
	mustNotJoin(t, "very many, the last one elsewhere", l)
}

// P11.3: to cover is an order: each covers itself, no two cover each other, and what covers one that covers a third covers that.
func TestCoversIsAnOrder(t *testing.T) {
	s := lcg(5)
	third, both := 0, 0
	for range 20 {
		var l []api.State
		for range 40 {
			l = append(l, someState(&s))
		}
		for range 40 {
			l = append(l, near(&s, l[s.below(len(l))]))
		}
		for _, a := range l {
			mustCover(t, "itself", a, a, true)
			for _, b := range l {
				if !relax.Covers(a, b) {
					continue
				}
				if relax.Covers(b, a) {
					both++
					if a != b {
						t.Errorf("each covers the other one:\n%+v and\n%+v", a, b)
					}
				}
				for _, c := range l {
					if a != b && b != c && relax.Covers(b, c) {
						mustCover(t, "the third one", a, c, true)
						third++
					}
				}
			}
		}
	}
	if third < 1000 || both < 1000 {
		t.Errorf("too few: %d, %d", third, both)
	}
}

// P11.3: what is joined covers each, and is covered by all that cover each.
func TestJoinIsTheLeastThatCovers(t *testing.T) {
	s := lcg(6)
	covering, not := 0, 0
	for range 3000 {
		l := []api.State{someState(&s)}
		for range s.below(4) {
			l = append(l, but(near(&s, l[0]), func(s *api.State) { s.At = l[0].At }))
		}
		j := joined(t, l...)
		for _, y := range l {
			mustCover(t, "joined", j, y, true)
		}
		for range 20 {
			a := near(&s, j)
			coversEach := true
			for _, y := range l {
				coversEach = coversEach && relax.Covers(a, y)
			}
			// Covering each is the same as covering what is joined.
			mustCover(t, "what covers each, or not", a, j, coversEach)
			if coversEach {
				covering++
			} else {
				not++
			}
		}
	}
	if covering < 1000 || not < 1000 {
		t.Errorf("too few of a kind: %d, %d", covering, not)
	}
}

// P11.3: two joined are the same as the one that covers the other one, just if it does.
func TestJoinOfWhatIsCovered(t *testing.T) {
	s := lcg(7)
	seen := map[bool]int{}
	for range 5000 {
		b := someState(&s)
		a := but(near(&s, b), func(s *api.State) { s.At = b.At })
		is := joined(t, a, b) == a
		mustCover(t, "joined is the first one", a, b, is)
		seen[is]++
	}
	if seen[true] < 500 || seen[false] < 500 {
		t.Errorf("too few of a kind: %v", seen)
	}
}

// P11.3: Join does not ask for the order, how often, or in which parts.
func TestJoinInOtherWays(t *testing.T) {
	s := lcg(8)
	seen := map[bool]int{}
	for range 3000 {
		l := []api.State{anyState(&s)}
		for range 1 + s.below(8) {
			y := near(&s, anyState(&s))
			if s.below(20) > 0 {
				y.At = l[0].At
			}
			l = append(l, y)
		}
		want, is := relax.Join(l...)
		seen[is]++
		shuffled := slices.Clone(l)
		for range 10 {
			i, k := s.below(len(l)), s.below(len(l))
			shuffled[i], shuffled[k] = shuffled[k], shuffled[i]
			mustAnswer(t, "in another order", shuffled, want, is)
		}
		often := slices.Clone(l)
		for range 5 {
			often = slices.Insert(often, s.below(len(often)+1), l[s.below(len(l))])
			mustAnswer(t, "more often", often, want, is)
		}
		for cut := 1; cut < len(shuffled); cut++ {
			first, isFirst := relax.Join(shuffled[:cut]...)
			rest, isRest := relax.Join(shuffled[cut:]...)
			whole, isWhole := relax.Join(first, rest)
			isWhole = isWhole && isFirst && isRest
			if isWhole != is || is && whole != want {
				t.Errorf("in parts: %+v, %t; want %+v, %t; of %+v", whole, isWhole, want, is, l)
			}
		}
		if !is {
			continue
		}
		one := l[0]
		for _, y := range l {
			one = joined(t, one, y)
		}
		if one != want {
			t.Errorf("one by one: %+v, want %+v; of %+v", one, want, l)
		}
		mustJoin(t, "with what is joined", append(slices.Clone(l), want), want)
	}
	if seen[true] < 500 || seen[false] < 300 {
		t.Errorf("too few of a kind: %v", seen)
	}
}

// scattered is an instance of so many pairs, on so many places a side, whose times are as short.
func scattered(s *lcg, pairs, side, due int) api.Instance {
	x := api.Instance{Pairs: pairs, Cars: 1 + s.below(4), Room: 5 + s.below(10)}
	for i := range 2*pairs + 1 {
		p := api.Stop{X: s.below(side), Y: s.below(side), Ready: s.below(1 + due/2), Service: s.below(3)}
		p.Due = p.Ready + s.below(1+due)
		switch {
		case i == 0:
			p.Service, p.Ready = 0, p.Ready/4
			p.Due += due
		case i <= pairs:
			p.Demand = 1 + s.below(5)
		default:
			p.Due += due / 2
			p.Demand = -x.Stops[i-pairs].Demand
		}
		x.Stops = append(x.Stops, p)
	}
	return x
}

// someStops are some of those up to 2n, seldom others, too.
func someStops(s *lcg, n int) uint64 {
	l := s.set() & (1<<(2*n+1) - 2)
	switch s.below(6) {
	case 0:
		l = 1<<(2*n+1) - 2
	case 1:
		l |= of(0, 63)
	}
	return l
}

// between is a number from least to most, mostly one of them.
func between(s *lcg, least, most int) int {
	if most <= least || s.below(4) == 0 {
		return least
	}
	if s.below(4) == 0 {
		return most
	}
	return least + s.below(most-least+1)
}

// goingOn is a state of x whose numbers are not below 0; from most of them something follows.
func goingOn(s *lcg, x api.Instance) api.State {
	n := x.Pairs
	y := api.State{
		At:    s.below(2*n + 1),
		Car:   between(s, 1, x.Cars),
		Time:  s.below(1 + x.Stops[0].Due),
		Load:  between(s, 0, x.Room),
		First: between(s, 0, n),
		Must:  someStops(s, n),
	}
	y.May = y.Must | someStops(s, n)
	if s.below(3) == 0 {
		y.On = y.May & s.set() & (1<<(n+1) - 2)
	}
	if s.below(20) == 0 {
		y.May = s.set()
	}
	return y
}

// covering is a state that covers b, whose numbers are not below 0, and that is of some car.
func covering(s *lcg, b api.State) api.State {
	less := func(set uint64) uint64 {
		if s.below(2) == 0 {
			return set
		}
		return set & s.set()
	}
	a := api.State{
		At:    b.At,
		Car:   between(s, 1, b.Car),
		Time:  between(s, 0, b.Time),
		Load:  between(s, 0, b.Load),
		First: between(s, 0, b.First),
		Must:  less(b.Must),
		May:   b.May,
		On:    less(b.On),
	}
	if s.below(2) == 0 {
		a.May |= s.set()
	}
	return a
}

// followed counts what was seen of moves and ends.
type followed struct{ takes, brings, yards, ends, none int }

// mustFollowToo asks that a covers b, and that all that follows b follows a, costs as much, and is covered; where b can be ended a can, for as much.
func (f *followed) mustFollowToo(t *testing.T, x api.Instance, a, b api.State) {
	t.Helper()
	if !relax.Covers(a, b) {
		t.Fatalf("it does not cover:\n%+v and\n%+v", a, b)
	}
	moves := state.Moves(x, b)
	for _, j := range moves {
		behindB, far, _ := state.Move(x, b, j)
		behindA, n, is := state.Move(x, a, j)
		if !is || n != far || !relax.Covers(behindA, behindB) {
			t.Errorf("to %d: %t, %d and %d; from\n%+v to\n%+v, from\n%+v to\n%+v; of %+v", j, is, n, far, a, behindA, b, behindB, x)
		}
		switch {
		case j == 0:
			f.yards++
		case j <= x.Pairs:
			f.takes++
		default:
			f.brings++
		}
	}
	far, is := state.End(x, b)
	if is {
		if n, isToo := state.End(x, a); n != far || !isToo {
			t.Errorf("End: %d, %t and %d; of\n%+v and\n%+v; of %+v", n, isToo, far, a, b, x)
		}
		f.ends++
	}
	if len(moves) == 0 && !is {
		f.none++
	}
}

// mustHaveSeen asks that there were enough of each kind.
func (f *followed) mustHaveSeen(t *testing.T, enough int) {
	t.Helper()
	if f.takes < enough || f.brings < enough || f.yards < enough || f.ends < enough {
		t.Errorf("too few of a kind: %+v", *f)
	}
}

// P11.3: what follows a state follows each that covers it, and as many moves on as there are.
func TestWhatFollowsFollowsToo(t *testing.T) {
	s := lcg(9)
	var f followed
	for turn := range 1500 {
		x := scattered(&s, 1+turn%16, []int{3, 40, 10001}[turn%3], []int{60, 400, 40000}[turn%3])
		for range 20 {
			b := goingOn(&s, x)
			a := covering(&s, b)
			f.mustFollowToo(t, x, a, b)
			for {
				l := state.Moves(x, b)
				if len(l) == 0 {
					break
				}
				j := l[s.below(len(l))]
				b, _, _ = state.Move(x, b, j)
				a, _, _ = state.Move(x, a, j)
				f.mustFollowToo(t, x, a, b)
			}
		}
	}
	f.mustHaveSeen(t, 2000)
	if f.none < 2000 {
		t.Errorf("too few of which nothing follows: %+v", f)
	}
}

// P11.3: one part better, all else the same: what follows follows too.
func TestWhatFollowsOneThatIsBetterInOnePart(t *testing.T) {
	s := lcg(10)
	var f followed
	for turn := range 600 {
		x := scattered(&s, 1+turn%6, 10, 200)
		b := goingOn(&s, x)
		for _, n := range numbers() {
			least := 0
			if n.name == "Car" {
				least = 1
			}
			for m := max(least, *n.at(&b)-3); m <= *n.at(&b); m++ {
				f.mustFollowToo(t, x, n.with(b, m), b)
			}
		}
		for _, m := range sets() {
			for i := range 64 {
				a := m.with(b, *m.at(&b)&^of(i))
				if m.more {
					a = m.with(b, *m.at(&b)|of(i))
				}
				f.mustFollowToo(t, x, a, b)
			}
		}
	}
	f.mustHaveSeen(t, 1000)
}

// P11.3: what follows some states follows what they are, thrown together.
func TestWhatFollowsFollowsWhatIsJoined(t *testing.T) {
	s := lcg(11)
	var f followed
	for turn := range 1500 {
		x := scattered(&s, 1+turn%16, []int{3, 40, 10001}[turn%3], []int{60, 400, 40000}[turn%3])
		l := []api.State{goingOn(&s, x)}
		for range 1 + s.below(5) {
			l = append(l, but(goingOn(&s, x), func(s *api.State) { s.At = l[0].At }))
		}
		j := joined(t, l...)
		for _, b := range l {
			f.mustFollowToo(t, x, j, b)
		}
	}
	f.mustHaveSeen(t, 1000)
}

// P11.3: all that can be followed from Root, layer by layer, against layers in which all of one stop are thrown together: each is covered, and each end found.
func TestLayersThatAreThrownTogether(t *testing.T) {
	s := lcg(12)
	var f followed
	for turn := range 120 {
		x := scattered(&s, 1+turn%3, 6, 40+s.below(160))
		exact := []api.State{state.Root(x)}
		wide := map[int]api.State{0: state.Root(x)}
		for len(exact) > 0 {
			for _, b := range exact {
				f.mustFollowToo(t, x, wide[b.At], b)
			}
			exact, wide = behindAll(x, exact), thrownTogether(t, x, wide)
		}
	}
	f.mustHaveSeen(t, 300)
}

// behindAll are the states behind all moves from some.
func behindAll(x api.Instance, l []api.State) []api.State {
	var behind []api.State
	for _, b := range l {
		for _, j := range state.Moves(x, b) {
			there, _, _ := state.Move(x, b, j)
			behind = append(behind, there)
		}
	}
	return behind
}

// thrownTogether are the states behind all moves from some, one for each stop.
func thrownTogether(t *testing.T, x api.Instance, l map[int]api.State) map[int]api.State {
	t.Helper()
	behind := map[int][]api.State{}
	for _, a := range l {
		for _, there := range behindAll(x, []api.State{a}) {
			behind[there.At] = append(behind[there.At], there)
		}
	}
	one := map[int]api.State{}
	for at, l := range behind {
		one[at] = joined(t, l...)
	}
	return one
}

// example is chapter 5's: one pair.
func example() api.Instance {
	return api.Instance{Pairs: 1, Cars: 1, Room: 5, Stops: []api.Stop{
		{X: 0, Y: 0, Demand: 0, Ready: 0, Due: 100, Service: 0},
		{X: 3, Y: 0, Demand: 2, Ready: 0, Due: 50, Service: 1},
		{X: 0, Y: 4, Demand: -2, Ready: 0, Due: 90, Service: 1},
	}}
}

// P11.3, at its edges: where the numbers that are not below 0 are none that layer state goes on from, nothing follows, though they are less: a Car of 0; and without pairs only Root can be ended.
func TestWhereNothingFollows(t *testing.T) {
	x := example()
	root := state.Root(x)
	noCar := but(root, func(s *api.State) { s.Car = 0 })
	mustCover(t, "no car", noCar, root, true)
	if l := state.Moves(x, noCar); len(l) > 0 || !slices.Equal(state.Moves(x, root), []int{1}) {
		t.Errorf("no car: Moves %d", l)
	}
	below := but(root, func(s *api.State) { s.Time = -1 })
	mustCover(t, "a Time below 0", below, root, true)
	if l := state.Moves(x, below); len(l) > 0 {
		t.Errorf("a Time below 0: Moves %d", l)
	}
	x = api.Instance{Cars: 2, Room: 1, Stops: []api.Stop{{X: 4, Y: 5, Ready: 6, Due: 7}}}
	if !inst.May(x) {
		t.Fatal("it may not be")
	}
	root = state.Root(x)
	early := but(root, func(s *api.State) { s.Time-- })
	mustCover(t, "without pairs", early, root, true)
	if _, is := state.End(x, root); !is {
		t.Error("without pairs: Root can't be ended")
	}
	if n, is := state.End(x, early); n != 0 || is {
		t.Errorf("without pairs: one that is earlier can be ended: %d", n)
	}
	var f followed
	f.mustFollowToo(t, x, root, root)
}

// R3: what is handed in stays as it was, behind its end, too, and what is answered shares nothing with it.
func TestSharesNothingWithWhatIsHandedIn(t *testing.T) {
	l := []api.State{middle(), looser(), middle(), looser()}
	behind := []api.State{{At: 4, Car: -9, May: all}, {At: 5}}
	l = append(l, behind...)
	was := slices.Clone(l)
	s, is := relax.Join(l[:4]...)
	if !slices.Equal(l, was) {
		t.Fatalf("the list is now %+v, it was %+v", l, was)
	}
	one, isOne := relax.Join(l[:1]...)
	for i := range l {
		l[i] = api.State{At: 9, Car: 9, Time: 9, Load: 9, First: 9, Must: 9, May: 9, On: 9}
	}
	if s != looser() || !is || one != middle() || !isOne {
		t.Errorf("a change of what was handed in made %+v, %t, %+v, %t", s, is, one, isOne)
	}
	s.Car, s.Must = -8, all
	if again := joined(t, was[:4]...); again != looser() || !reflect.DeepEqual(l, slices.Repeat(l[:1], 6)) {
		t.Errorf("a change of what was answered made %+v, and %+v", again, l)
	}
	a, b := looser(), middle()
	if !relax.Covers(a, b) || a != looser() || b != middle() {
		t.Errorf("Covers made %+v, %+v", a, b)
	}
}

// R5: no answer hangs on what was asked before.
func TestAskedAgain(t *testing.T) {
	s := lcg(13)
	for range 100 {
		a, b := anyState(&s), anyState(&s)
		mustCover(t, "between", a, b, asSaid(a, b))
		l := []api.State{a, b, a}
		want, is := joinedAsSaid(l)
		mustAnswer(t, "between", l, want, is)
		mustNotJoin(t, "none", nil)
		mustJoin(t, "noughts", []api.State{{}, {}}, api.State{})
		TestExample(t)
	}
}

// The tests' own sets are made as they should be.
func TestSetsOfTheTests(t *testing.T) {
	if of() != 0 || of(1, 3) != 10 || of(63) != 1<<63 || bits.OnesCount64(of(0, 5, 63)) != 3 || !in(10, 3) || in(10, 2) {
		t.Error("of or in")
	}
	if !asSaid(looser(), middle()) || asSaid(middle(), looser()) {
		t.Error("asSaid")
	}
}
