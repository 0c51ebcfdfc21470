package better_test

import (
	"fmt"
	"math"
	"reflect"
	"slices"
	"testing"

	"haulier/api"
	"haulier/better"
	"haulier/plan"
	"haulier/relax"
	"haulier/state"
	"haulier/tour"
)

const all = math.MaxUint64

// lcg is a row of numbers that are spread out, the same in each run.
type lcg uint64

func (s *lcg) below(n int) int {
	*s = *s*6364136223846793005 + 1442695040888963407
	// The low bits of such a row repeat soon: only the high ones are taken.
	return int(uint64(*s) >> 33 % uint64(n))
}

// of is a set, made by hand.
func of(l ...int) uint64 {
	var s uint64
	for _, i := range l {
		s |= 1 << i
	}
	return s
}

// in tells whether i is in a set.
func in(s uint64, i int) bool { return s>>i&1 == 1 }

// but is n after a change; its path is its own.
func but(n api.Node, change func(n *api.Node)) api.Node {
	n.Path = slices.Clone(n.Path)
	change(&n)
	return n
}

type numberOf struct {
	name string
	at   func(n *api.Node) *int
}

// numbers are those of a node that must not be above the other one's.
func numbers() []numberOf {
	return []numberOf{
		{"Car", func(n *api.Node) *int { return &n.S.Car }},
		{"Time", func(n *api.Node) *int { return &n.S.Time }},
		{"Load", func(n *api.Node) *int { return &n.S.Load }},
		{"First", func(n *api.Node) *int { return &n.S.First }},
		{"Cost", func(n *api.Node) *int { return &n.Cost }},
	}
}

// with is n, and m as that number of it.
func (f numberOf) with(n api.Node, m int) api.Node {
	return but(n, func(n *api.Node) { *f.at(n) = m })
}

type setOf struct {
	name string
	at   func(n *api.Node) *uint64
}

// sets are those of a node that must be the same as the other one's.
func sets() []setOf {
	return []setOf{
		{"Must", func(n *api.Node) *uint64 { return &n.S.Must }},
		{"May", func(n *api.Node) *uint64 { return &n.S.May }},
		{"On", func(n *api.Node) *uint64 { return &n.S.On }},
	}
}

// with is n, and that set of it.
func (f setOf) with(n api.Node, set uint64) api.Node {
	return but(n, func(n *api.Node) { *f.at(n) = set })
}

// edges are numbers at which something could change, the least and the greatest that there are among them.
func edges() []int {
	return []int{
		math.MinInt, math.MinInt + 1, -1 << 62, -api.Inf, -1<<32 - 1, -1 << 32, -1 << 31, -256, -2, -1,
		0, 1, 2, 255, 256, 1 << 30, 1<<31 - 1, 1 << 31, 1 << 32, 1<<32 + 1, api.Inf - 1, api.Inf, api.Inf + 1, 1 << 62, math.MaxInt - 1, math.MaxInt,
	}
}

// middle is a node that has some of all.
func middle() api.Node {
	return api.Node{
		S:    api.State{At: 4, Car: 3, Time: 50, Load: 6, First: 2, Must: of(0, 1, 4, 63), May: of(0, 1, 4, 5, 63), On: of(0, 1, 63)},
		Cost: 70,
		Path: []int{1, 4},
	}
}

// lesser is middle, but less in each number in which the less is the better.
func lesser() api.Node {
	return but(middle(), func(n *api.Node) {
		for _, f := range numbers() {
			*f.at(n)--
		}
	})
}

// alone is a node that has seen just i and is nothing to those that have not.
func alone(i, cost int, path ...int) api.Node {
	return api.Node{S: api.State{At: i, Car: 1, Must: of(i), May: of(i), On: of(i)}, Cost: cost, Path: path}
}

// at is a node of one stop, with a Time and a Cost.
func at(time, cost int, path ...int) api.Node {
	return api.Node{S: api.State{At: 7, Car: 1, Time: time, Must: of(7), May: of(7), On: of(7)}, Cost: cost, Path: path}
}

// thanAsSaid is P13.1 by the chapter's words, stop by stop.
func thanAsSaid(a, b api.Node) bool {
	for i := range 64 {
		if in(a.S.Must, i) != in(b.S.Must, i) || in(a.S.May, i) != in(b.S.May, i) || in(a.S.On, i) != in(b.S.On, i) {
			return false
		}
	}
	return relax.Covers(a.S, b.S) && !(a.Cost > b.Cost)
}

// frontAsSaid is P13.2 by the chapter's words: each node is held against each other one.
func frontAsSaid(l []api.Node) []api.Node {
	var front []api.Node
	for k, b := range l {
		left := true
		for i, a := range l {
			if i != k && thanAsSaid(a, b) && (i < k || !thanAsSaid(b, a)) {
				left = false
			}
		}
		if left {
			front = append(front, b)
		}
	}
	return front
}

// clone is a list of nodes that shares nothing with l.
func clone(l []api.Node) []api.Node {
	l = slices.Clone(l)
	for k := range l {
		l[k].Path = slices.Clone(l[k].Path)
	}
	return l
}

// alike tells whether two nodes have all the same, their paths, too.
func alike(a, b api.Node) bool {
	return a.S == b.S && a.Cost == b.Cost && slices.Equal(a.Path, b.Path)
}

// few are the first ones of many, to be told.
func few(l []api.Node) []api.Node { return l[:min(len(l), 8)] }

// mustBe asks whether a is Than b, and that both stay as they were.
func mustBe(t *testing.T, what string, a, b api.Node, want bool) {
	t.Helper()
	wasA, wasB := clone([]api.Node{a})[0], clone([]api.Node{b})[0]
	if got := better.Than(a, b); got != want {
		t.Errorf("%s: Than: %t; want %t; of\n%+v and\n%+v", what, got, want, a, b)
	}
	if !alike(a, wasA) || !alike(b, wasB) {
		t.Errorf("%s: they are now %+v, %+v; they were %+v, %+v", what, a, b, wasA, wasB)
	}
}

// mustLeave asks for just these nodes as the Front, in this order, and that the list stays as it was.
func mustLeave(t *testing.T, what string, l []api.Node, want ...api.Node) {
	t.Helper()
	was := clone(l)
	got := better.Front(l)
	if !slices.EqualFunc(got, want, alike) {
		t.Errorf("%s: Front: %d:\n%+v; want %d:\n%+v; of %d:\n%+v", what, len(got), few(got), len(want), few(want), len(l), few(l))
	}
	if !reflect.DeepEqual(l, was) {
		t.Errorf("%s: the list is now %+v, it was %+v", what, few(l), few(was))
	}
}

// orders are all orders of some nodes.
func orders(l ...api.Node) [][]api.Node {
	if len(l) == 0 {
		return [][]api.Node{nil}
	}
	var o [][]api.Node
	for k := range l {
		for _, rest := range orders(slices.Concat(l[:k], l[k+1:])...) {
			o = append(o, append([]api.Node{l[k]}, rest...))
		}
	}
	return o
}

// someNode is one of few kinds of numbers and sets, so that one is often Than another one.
func someNode(s *lcg, kinds int) api.Node {
	number := func() int { return s.below(kinds) - 1 }
	n := api.Node{S: api.State{At: 3, Car: number(), Time: number(), Load: number(), First: number()}, Cost: number()}
	for range s.below(3) {
		n.Path = append(n.Path, s.below(5))
	}
	if s.below(4) == 0 {
		n.S.Must, n.S.May, n.S.On = of(s.below(2)), of(s.below(2)), of(s.below(2))
	}
	if s.below(20) == 0 {
		n.S.At = 4
	}
	return n
}

// anyNode is one of all kinds of numbers and sets.
func anyNode(s *lcg) api.Node {
	number := func() int {
		if s.below(3) > 0 {
			return s.below(9) - 4
		}
		return edges()[s.below(len(edges()))]
	}
	set := func() uint64 { return uint64(s.below(1<<31))<<33 ^ uint64(s.below(1<<31))<<16 ^ uint64(s.below(1<<31)) }
	return api.Node{
		S:    api.State{At: s.below(5) - 1, Car: number(), Time: number(), Load: number(), First: number(), Must: set(), May: set(), On: set()},
		Cost: number(),
		Path: []int{number(), number()},
	}
}

// near is another one that is like n in most parts, or a little above or below it.
func near(s *lcg, n api.Node) api.Node {
	return but(n, func(n *api.Node) {
		for _, f := range numbers() {
			if s.below(3) == 0 {
				*f.at(n) += []int{-1, -1, -1, 1}[s.below(4)]
			}
		}
		if s.below(6) == 0 {
			*sets()[s.below(3)].at(n) ^= 1 << s.below(64)
		}
		if s.below(16) == 0 {
			n.S.At += 2*s.below(2) - 1
		}
	})
}

// someList is a list of so many nodes, some of them told several times.
func someList(s *lcg, length int) []api.Node {
	var l []api.Node
	kinds := 1 + s.below(6)
	for len(l) < length {
		n := someNode(s, kinds)
		if len(l) > 0 && s.below(4) == 0 {
			n = clone(l)[s.below(len(l))]
		}
		l = append(l, n)
	}
	return l
}

// P13.2: the chapter's example.
func TestExample(t *testing.T) {
	five, three := at(1, 5, 1, 2), at(1, 3, 2, 1)
	mustLeave(t, "5 and 3", []api.Node{five, three}, three)
	mustLeave(t, "3 and 5", []api.Node{three, five}, three)
	mustBe(t, "3, 5", three, five, true)
	mustBe(t, "5, 3", five, three, false)
}

// P13.1: nodes that are alike are each Than the other, and each Than itself.
func TestThanItself(t *testing.T) {
	l := []api.Node{{}, middle(), lesser(), alone(3, 4), {S: api.State{Must: all, May: all, On: all}}, {S: api.State{May: of(3)}}, {Path: []int{1}}}
	for _, n := range edges() {
		l = append(l, at(n, n), at(n, 0), at(0, n), api.Node{S: api.State{At: n, Car: n, Time: n, Load: n, First: n}, Cost: n})
	}
	s := lcg(1)
	for range 200 {
		l = append(l, anyNode(&s))
	}
	for _, n := range l {
		mustBe(t, "itself", n, n, true)
		other := clone([]api.Node{n})[0]
		mustBe(t, "alike", n, other, true)
		mustBe(t, "alike, the other way round", other, n, true)
	}
}

// P13.1: each of Car, Time, Load, First and Cost alone: less and the same it is, greater it is not; whatever the others are that are the same, or better.
func TestThanNumbers(t *testing.T) {
	for _, f := range numbers() {
		for _, m := range edges() {
			for _, n := range edges() {
				what := fmt.Sprint(f.name, " ", m, " and ", n)
				mustBe(t, what, f.with(middle(), m), f.with(middle(), n), m <= n)
				mustBe(t, "better, "+what, f.with(lesser(), m), f.with(middle(), n), m <= n)
				mustBe(t, "worse, "+what, f.with(middle(), m), f.with(lesser(), n), false)
				mustBe(t, "noughts, "+what, f.with(api.Node{}, m), f.with(api.Node{}, n), m <= n)
			}
		}
		n := middle()
		was := *f.at(&n)
		for _, by := range []int{-1, 0, 1} {
			mustBe(t, fmt.Sprint(f.name, " is more by ", by), f.with(middle(), was+by), middle(), by <= 0)
			mustBe(t, fmt.Sprint(f.name, " of the other one is more by ", by), middle(), f.with(middle(), was+by), by >= 0)
		}
	}
}

// P13.1: At must be the same.
func TestThanAt(t *testing.T) {
	for _, m := range edges() {
		for _, n := range edges() {
			stands := func(n api.Node, at int) api.Node { return but(n, func(n *api.Node) { n.S.At = at }) }
			mustBe(t, fmt.Sprint("At ", m, " and ", n), stands(middle(), m), stands(middle(), n), m == n)
			mustBe(t, fmt.Sprint("better, At ", m, " and ", n), stands(lesser(), m), stands(middle(), n), m == n)
		}
	}
	for _, by := range []int{-1, 0, 1} {
		mustBe(t, fmt.Sprint("At is more by ", by), but(middle(), func(n *api.Node) { n.S.At += by }), middle(), by == 0)
	}
}

// P13.1: Must, May and On must be the same: with one stop more, or one less, it is not, also where the state covers the other one, and is better in all else.
func TestThanSets(t *testing.T) {
	covered := map[string]int{}
	for _, f := range sets() {
		for _, base := range []api.Node{middle(), {}, {S: api.State{Must: all, May: all, On: all}}} {
			for i := range 64 {
				was := *f.at(&base)
				other := f.with(base, was^of(i))
				what := fmt.Sprint(f.name, " differs by ", i)
				mustBe(t, what, base, other, false)
				mustBe(t, what+", the other way round", other, base, false)
				best := but(other, func(n *api.Node) { n.S.Time, n.Cost = n.S.Time-9, n.Cost-9 })
				mustBe(t, what+", and is less in all else", best, base, false)
				if relax.Covers(best.S, base.S) {
					covered[f.name]++
				}
			}
		}
		mustBe(t, f.name+" has none", f.with(middle(), 0), middle(), false)
		mustBe(t, f.name+" has all", f.with(middle(), all), middle(), false)
		mustBe(t, f.name+" is the same", f.with(middle(), 9), f.with(middle(), 9), true)
	}
	for _, f := range sets() {
		if covered[f.name] < 60 {
			t.Errorf("%s: the state covered the other one only %d times", f.name, covered[f.name])
		}
	}
	// The three are held each against its own, not all together.
	mustBe(t, "Must and May are changed round", api.Node{S: api.State{Must: 1, May: 3}}, api.Node{S: api.State{Must: 3, May: 1}}, false)
	mustBe(t, "Must and On are changed round", api.Node{S: api.State{Must: 1, On: 3}}, api.Node{S: api.State{Must: 3, On: 1}}, false)
	mustBe(t, "May and On are changed round", api.Node{S: api.State{May: 1, On: 3}}, api.Node{S: api.State{May: 3, On: 1}}, false)
}

// P13.1: paths change nothing.
func TestThanPaths(t *testing.T) {
	paths := [][]int{nil, {}, {1}, {1, 4}, {4, 1}, {1, 4, 0}, {-1, math.MaxInt}}
	for _, p := range paths {
		for _, q := range paths {
			path := func(n api.Node, p []int) api.Node { return but(n, func(n *api.Node) { n.Path = p }) }
			what := fmt.Sprint("paths ", p, " and ", q)
			mustBe(t, what, path(middle(), p), path(middle(), q), true)
			mustBe(t, "better, "+what, path(lesser(), p), path(middle(), q), true)
			mustBe(t, "worse, "+what, path(middle(), p), path(lesser(), q), false)
		}
	}
}

// P13.1: held against the chapter's words.
func TestThanMany(t *testing.T) {
	s := lcg(2)
	is, isNot := 0, 0
	ask := func(a, b api.Node) {
		want := thanAsSaid(a, b)
		mustBe(t, "many", a, b, want)
		if want {
			is++
		} else {
			isNot++
		}
	}
	for range 20000 {
		ask(someNode(&s, 2), someNode(&s, 2))
		a := anyNode(&s)
		ask(near(&s, a), a)
		ask(a, near(&s, a))
		ask(a, anyNode(&s))
	}
	if is < 5000 || isNot < 5000 {
		t.Errorf("too few of a kind: %d, %d", is, isNot)
	}
}

// P13.1: Than is an order, as to cover is: what is handed on by one is handed on by all.
func TestThanIsAnOrder(t *testing.T) {
	s := lcg(3)
	found := 0
	for range 200000 {
		a := someNode(&s, 3)
		b, c := near(&s, a), near(&s, a)
		if better.Than(a, b) && better.Than(b, c) {
			found++
			mustBe(t, "handed on", a, c, true)
		}
		if better.Than(a, b) && better.Than(b, a) && (a.S != b.S || a.Cost != b.Cost) {
			t.Errorf("each is Than the other: %+v, %+v", a, b)
		}
	}
	if found < 500 {
		t.Errorf("too few of a kind: %d", found)
	}
}

// P13.2: no nodes, and one.
func TestFrontOfFew(t *testing.T) {
	mustLeave(t, "nil", nil)
	mustLeave(t, "empty", []api.Node{})
	l := []api.Node{{}, middle(), lesser(), {Cost: math.MinInt}, {Cost: math.MaxInt}, {Cost: api.Inf, Path: []int{}}, alone(3, -4, 5, 6)}
	s := lcg(4)
	for range 50 {
		l = append(l, anyNode(&s))
	}
	for _, n := range l {
		mustLeave(t, "one", []api.Node{n}, n)
	}
}

// P13.2: of such as are alike the first one is left, also where only their paths are not; of such as are alike but for one number the one in which it is less.
func TestFrontOfTwo(t *testing.T) {
	n := middle()
	mustLeave(t, "alike", []api.Node{n, middle()}, n)
	mustLeave(t, "noughts", make([]api.Node, 2), api.Node{})
	other := but(n, func(n *api.Node) { n.Path = []int{4, 1, 0} })
	mustLeave(t, "other paths", []api.Node{n, other}, n)
	mustLeave(t, "other paths, the other way round", []api.Node{other, n}, other)
	none := but(n, func(n *api.Node) { n.Path = nil })
	mustLeave(t, "no path", []api.Node{n, none}, n)
	mustLeave(t, "no path, the other way round", []api.Node{none, n}, none)
	for _, f := range numbers() {
		l := edges()
		for k, less := range l {
			for _, more := range l[k+1:] {
				a, b := f.with(n, less), f.with(other, more)
				what := fmt.Sprint(f.name, " ", less, " and ", more)
				mustLeave(t, what, []api.Node{a, b}, a)
				mustLeave(t, what+", the other way round", []api.Node{b, a}, a)
			}
		}
	}
	mustLeave(t, "less in all", []api.Node{n, lesser()}, lesser())
	mustLeave(t, "less in all, the other way round", []api.Node{lesser(), n}, lesser())
}

// P13.2: nodes of which none leaves another one out are all left, in their order.
func TestFrontOfSuchAsAreAllLeft(t *testing.T) {
	n := middle()
	for _, o := range orders(at(1, 4), at(2, 3), at(3, 2), at(4, 1)) {
		mustLeave(t, "the later the cheaper", o, o...)
	}
	for _, o := range orders(n, but(n, func(n *api.Node) { n.S.At++ }), but(lesser(), func(n *api.Node) { n.S.At-- })) {
		mustLeave(t, "other stops", o, o...)
	}
	for _, f := range sets() {
		for i := range 64 {
			m := f.with(lesser(), *f.at(&n)^of(i))
			mustLeave(t, fmt.Sprint(f.name, " differs by ", i), []api.Node{n, m}, n, m)
			mustLeave(t, fmt.Sprint(f.name, " differs by ", i, ", the other way round"), []api.Node{m, n}, m, n)
		}
	}
	// Each two numbers, of which one is less in the one node, and the other in the other.
	for i, f := range numbers() {
		for _, g := range numbers()[i+1:] {
			a, b := f.with(n, -5), g.with(n, -5)
			mustLeave(t, f.name+" and "+g.name, []api.Node{a, b}, a, b)
			mustLeave(t, g.name+" and "+f.name, []api.Node{b, a}, b, a)
		}
	}
	var l []api.Node
	for i := range 64 {
		l = append(l, alone(63-i, i%3))
	}
	mustLeave(t, "each at a stop of its own", l, l...)
}

// P13.2: three in a chain, and more, in each order: just the first one of the chain is left.
func TestFrontOfChains(t *testing.T) {
	for _, f := range numbers() {
		for _, o := range orders(f.with(middle(), 1), f.with(middle(), 2), f.with(middle(), 3)) {
			mustLeave(t, "by "+f.name, o, f.with(middle(), 1))
		}
	}
	for _, o := range orders(at(1, 1, 9), at(1, 2, 8), at(2, 2, 7)) {
		mustLeave(t, "by Time and by Cost", o, at(1, 1, 9))
	}
	best := but(middle(), func(n *api.Node) { n.S.Car, n.S.Load = 2, 5 })
	for _, o := range orders(best, but(best, func(n *api.Node) { n.S.Car = 3 }), middle(), but(middle(), func(n *api.Node) { n.S.First, n.Cost = 9, 99 })) {
		mustLeave(t, "by four", o, best)
	}
}

// P13.2: a node is left out by one ahead of it or behind it, and by one that is left out itself.
func TestFrontOfSuchAsAreLeftOut(t *testing.T) {
	worst, worse, best, beside := at(5, 5, 1), at(4, 4, 2), at(3, 3, 3), at(9, 1, 4)
	mustLeave(t, "by one behind", []api.Node{worst, beside, best}, beside, best)
	mustLeave(t, "by one ahead", []api.Node{best, beside, worst}, best, beside)
	mustLeave(t, "by one behind that is left out", []api.Node{worst, worse, best}, best)
	mustLeave(t, "by one ahead that is left out by one behind", []api.Node{worse, worst, best, beside}, best, beside)
	mustLeave(t, "by one behind that is left out by one ahead", []api.Node{best, beside, worst, worse}, best, beside)
	mustLeave(t, "by one ahead, and one behind", []api.Node{worse, worst, worse}, worse)
	mustLeave(t, "two by one", []api.Node{at(5, 1), beside, at(1, 5), at(1, 1), alone(3, 99)}, at(1, 1), alone(3, 99))
	mustLeave(t, "one by two", []api.Node{at(5, 1), at(5, 5), at(1, 5)}, at(5, 1), at(1, 5))
	mustLeave(t, "of two kinds, between each other",
		[]api.Node{alone(1, 5), alone(2, 3), alone(1, 4), alone(2, 4), alone(2, 3, 1), alone(1, 4, 1)}, alone(2, 3), alone(1, 4))
	// Those that are left out by one behind them stand ahead of, between and behind others that are left.
	mustLeave(t, "between others", []api.Node{alone(1, 0), worst, alone(2, 0), worse, alone(3, 0), best, alone(4, 0), worst, alone(5, 0)},
		alone(1, 0), alone(2, 0), alone(3, 0), best, alone(4, 0), alone(5, 0))
}

// P13.2: the same node several times, between others: the first one is left.
func TestFrontOfTheSameSeveralTimes(t *testing.T) {
	n := middle()
	mustLeave(t, "five times", []api.Node{n, n, n, n, n}, n)
	first := func(path ...int) api.Node { return at(2, 2, path...) }
	mustLeave(t, "between others", []api.Node{first(1), at(1, 3), first(2), at(3, 1), first(3)}, first(1), at(1, 3), at(3, 1))
	mustLeave(t, "behind others", []api.Node{at(1, 3), first(1), alone(1, 1), first(2), first(3), alone(2, 1), first(4)}, at(1, 3), first(1), alone(1, 1), alone(2, 1))
	mustLeave(t, "behind one that it leaves out", []api.Node{at(2, 3), first(1), first(2), at(3, 2), first(3)}, first(1))
	mustLeave(t, "ahead of one by which it is left out", []api.Node{first(1), first(2), at(1, 2), first(3)}, at(1, 2))
	many := slices.Repeat([]api.Node{at(5, 1, 1), at(1, 5, 2), at(3, 3, 3), at(3, 4, 4)}, 100)
	mustLeave(t, "four, a hundred times", many, at(5, 1, 1), at(1, 5, 2), at(3, 3, 3))
}

// P13.2, P13.3: all lists of up to five out of some nodes, held against the chapter's words.
func TestAllShortLists(t *testing.T) {
	kinds := []api.Node{at(1, 2), at(2, 1), at(2, 2), at(1, 1), at(1, 3), alone(7, 2), alone(6, 2)}
	var goOn func(l []api.Node)
	goOn = func(l []api.Node) {
		mustLeave(t, "short", l, frontAsSaid(l)...)
		mustLeaveNoneWithoutUse(t, l)
		for i := 0; len(l) < 5 && i < len(kinds); i++ {
			n := kinds[i]
			// The path tells which one of several is left.
			n.Path = []int{len(l)}
			goOn(append(slices.Clone(l), n))
		}
	}
	goOn(nil)
}

// mustLeaveNoneWithoutUse asks for P13.3: for each node that is left out one is left that is Than it; none that is left is Than another one that is; and what is left is left again.
func mustLeaveNoneWithoutUse(t *testing.T, l []api.Node) (left, out int) {
	t.Helper()
	front := better.Front(l)
	for _, b := range l {
		if !slices.ContainsFunc(front, func(a api.Node) bool { return thanAsSaid(a, b) }) {
			t.Errorf("none is left that is Than %+v; left are %+v", b, few(front))
		}
	}
	for i, a := range front {
		for k, b := range front {
			if i != k && thanAsSaid(a, b) {
				t.Errorf("both are left: %+v, %+v", a, b)
			}
		}
	}
	mustLeave(t, "asked for once more", front, front...)
	return len(front), len(l) - len(front)
}

// P13.2, P13.3: long lists, held against the chapter's words; and those of which each is told twice.
func TestManyLists(t *testing.T) {
	s := lcg(5)
	left, out := 0, 0
	for turn := range 1500 {
		l := someList(&s, turn%60)
		want := frontAsSaid(l)
		mustLeave(t, "many", l, want...)
		m, n := mustLeaveNoneWithoutUse(t, l)
		left, out = left+m, out+n
		mustLeave(t, "told once more, behind all", slices.Concat(l, l), want...)
		mustLeave(t, "what is left is told once more, behind all", slices.Concat(l, want), want...)
		mustLeave(t, "what is left, ahead of all", slices.Concat(want, l), want...)
		var twice []api.Node
		for _, n := range l {
			twice = append(twice, n, n)
		}
		mustLeave(t, "each told twice", twice, want...)
	}
	if left < 5000 || out < 5000 {
		t.Errorf("too few of a kind: %d, %d", left, out)
	}
}

// P13.2, P13.3: lists of nodes of all kinds of numbers and sets, and such as are near them.
func TestManyListsOfAnyNodes(t *testing.T) {
	s := lcg(6)
	left, out := 0, 0
	for turn := range 500 {
		var l []api.Node
		for range turn % 12 {
			n := anyNode(&s)
			l = append(l, n, near(&s, n), near(&s, n))
		}
		// What is near stands anywhere.
		slices.SortFunc(l, func(a, b api.Node) int { return a.S.Time - a.S.Time/7*7 - b.S.Time + b.S.Time/7*7 })
		mustLeave(t, "any", l, frontAsSaid(l)...)
		m, n := mustLeaveNoneWithoutUse(t, l)
		left, out = left+m, out+n
	}
	if left < 2000 || out < 1000 {
		t.Errorf("too few of a kind: %d, %d", left, out)
	}
}

// P13.3: which nodes are left, but for the paths of such as are alike, does not hang on their order.
func TestOrderOfTheList(t *testing.T) {
	s := lcg(7)
	for turn := range 500 {
		l := someList(&s, turn%40)
		want := better.Front(l)
		for i := range l {
			k := i + s.below(len(l)-i)
			l[i], l[k] = l[k], l[i]
		}
		got := better.Front(l)
		for _, n := range want {
			if !slices.ContainsFunc(got, func(m api.Node) bool { return m.S == n.S && m.Cost == n.Cost }) {
				t.Errorf("%+v is not left in another order: %+v", n, few(got))
			}
		}
		if len(got) != len(want) {
			t.Errorf("%d are left, in another order %d", len(want), len(got))
		}
	}
}

// P1: very many nodes: few of each kind, and all of one kind, where each is left, or one.
func TestVeryMany(t *testing.T) {
	const many = 200000
	var each, cheaper []api.Node
	for i := range many {
		each = append(each, api.Node{S: api.State{Must: uint64(i)}, Cost: many - i}, api.Node{S: api.State{Must: uint64(i), Time: i % 2}, Cost: many - i - i%3})
		cheaper = append(cheaper, at(1, many-i))
	}
	front := better.Front(each)
	want := 0
	for i := range many {
		want += len(frontAsSaid(each[2*i : 2*i+2]))
	}
	if len(front) != want || want <= many || want == 2*many {
		t.Errorf("of %d kinds of two nodes each %d are left; want %d", many, len(front), want)
	}
	mustLeave(t, "each cheaper", cheaper, at(1, 1))
	slices.Reverse(cheaper)
	mustLeave(t, "each dearer", cheaper, at(1, 1))
	var l []api.Node
	for i := range 2000 {
		l = append(l, at(i, 2000-i))
	}
	mustLeave(t, "the later the cheaper", l, l...)
}

// R3: what is handed in stays as it was, behind its end, too.
func TestListStaysAsItWas(t *testing.T) {
	paths := []int{1, 2, 3, 4, 5, 6, 7, 8}
	l := []api.Node{at(5, 5, paths[:2]...), at(4, 4), alone(1, 1), at(4, 4), at(3, 3), at(9, 9), at(1, 1)}
	l[0].Path, l[4].Path = paths[:2], paths[2:4]
	was, wasPaths := clone(l), slices.Clone(paths)
	front := better.Front(l[:5])
	if !reflect.DeepEqual(l, was) || !slices.Equal(paths, wasPaths) {
		t.Fatalf("the list is now\n%+v, it was\n%+v; the paths are %d", l, was, paths)
	}
	for k := range front {
		front[k].Path = append(front[k].Path, 9, 9)
	}
	front = append(front, middle())
	if !reflect.DeepEqual(l, was) || !slices.Equal(paths, wasPaths) {
		t.Fatalf("what was put behind what was answered made\n%+v, it was\n%+v; the paths are %d", l, was, paths)
	}
}

// R3: what is answered shares nothing with what is handed in, nor does any of it with any other of it.
func TestSharesNothing(t *testing.T) {
	path := []int{3, 1, 4}
	l := []api.Node{at(1, 5), at(5, 5), alone(2, 2), at(5, 1)}
	for k := range l {
		l[k].Path = path
	}
	want := clone([]api.Node{l[0], l[2], l[3]})
	front, again := better.Front(l), better.Front(l)
	for k := range l {
		l[k].S, l[k].Cost = api.State{At: -1}, -1
	}
	path[0], path[1] = -8, -9
	if !slices.EqualFunc(front, want, alike) {
		t.Fatalf("a change of what was handed in made %+v; want %+v", front, want)
	}
	wasL := clone(l)
	for k := range front {
		for i := range front[k].Path {
			front[k].Path[i] = 70 + k
		}
		for i, n := range front {
			if i > k && !slices.Equal(n.Path, want[i].Path) {
				t.Fatalf("a change of one path made %d of another one", n.Path)
			}
		}
		front[k].S, front[k].Cost = api.State{At: -2}, -2
	}
	if !reflect.DeepEqual(l, wasL) || !slices.Equal(path, []int{-8, -9, 4}) || !slices.EqualFunc(again, want, alike) {
		t.Errorf("a change of what was answered made %+v, %d, and %+v", l, path, again)
	}
	// Where none is left out the answer is no less its own.
	l = []api.Node{at(1, 2, 5), at(2, 1, 6)}
	front = better.Front(l)
	front[0].Cost, front[1].Path[0] = 9, 9
	if l[0].Cost != 2 || l[1].Path[0] != 6 {
		t.Errorf("a change of what was answered made %+v", l)
	}
}

// R5: no answer hangs on what was asked before.
func TestAskedAgain(t *testing.T) {
	s := lcg(8)
	for range 100 {
		l := someList(&s, 30)
		want := frontAsSaid(l)
		mustLeave(t, "between", l, want...)
		mustLeave(t, "none", nil)
		TestExample(t)
		mustBe(t, "between", l[0], l[1], thanAsSaid(l[0], l[1]))
		mustLeave(t, "again", l, want...)
	}
}

// scattered is an instance of so many pairs, on so many places a side, whose times are as short.
func scattered(s *lcg, pairs, side, due int) api.Instance {
	x := api.Instance{Pairs: pairs, Cars: 1 + s.below(3), Room: 5 + s.below(10)}
	for i := range 2*pairs + 1 {
		p := api.Stop{X: s.below(side), Y: s.below(side), Ready: s.below(1 + due/2), Service: s.below(3)}
		p.Due = p.Ready + s.below(1+due)
		switch {
		case i == 0:
			p.Service, p.Ready = 0, p.Ready/4
			p.Due += due
		case i <= pairs:
			p.Demand = 1 + s.below(5)
		default:
			p.Due += due / 2
			p.Demand = -x.Stops[i-pairs].Demand
		}
		x.Stops = append(x.Stops, p)
	}
	return x
}

// behind are the nodes behind all moves from some.
func behind(x api.Instance, l []api.Node) []api.Node {
	var next []api.Node
	for _, n := range l {
		for _, j := range state.Moves(x, n.S) {
			there, far, _ := state.Move(x, n.S, j)
			next = append(next, api.Node{S: there, Cost: n.Cost + far, Path: append(slices.Clone(n.Path), j)})
		}
	}
	return next
}

// cheapest is the one of some nodes that can be ended for the least, with what it costs then.
func cheapest(x api.Instance, l []api.Node) (api.Node, int) {
	var best api.Node
	least := api.Inf
	for _, n := range l {
		if far, is := state.End(x, n.S); is && n.Cost+far < least {
			best, least = n, n.Cost+far
		}
	}
	return best, least
}

// leastFrom is the least that a node costs in the end, by looking at all that follows; Inf, if it can't be ended.
func leastFrom(x api.Instance, n api.Node) int {
	l := []api.Node{n}
	least := api.Inf
	for len(l) > 0 {
		_, end := cheapest(x, l)
		least, l = min(least, end), behind(x, l)
	}
	return least
}

// P4, P13.3: level by level from Root, of which only the Front goes on: what is found costs as little as when all go on, and is a plan that costs that.
func TestLevelsOfWhichTheFrontGoesOn(t *testing.T) {
	s := lcg(9)
	found, none, out := 0, 0, 0
	for turn := range 300 {
		x := scattered(&s, turn%5, 1+s.below(25), 20+s.below(100))
		root := api.Node{S: state.Root(x)}
		want := leastFrom(x, root)
		var best api.Node
		least := api.Inf
		for l := []api.Node{root}; len(l) > 0; {
			if n, end := cheapest(x, l); end < least {
				best, least = n, end
			}
			next := behind(x, l)
			mustLeave(t, "a level", next, frontAsSaid(next)...)
			l = better.Front(next)
			out += len(next) - len(l)
		}
		if least != want {
			t.Errorf("%d is found, but it can be done for %d; of %+v", least, want, x)
		}
		if least == api.Inf {
			none++
			continue
		}
		found++
		p, err := tour.Split(best.Path)
		if cost, wrong := plan.Cost(x, p); err != api.OK || wrong != api.OK || cost != least {
			t.Errorf("%d: Split: %d; it costs %d, %d; found for %d; of %+v", best.Path, err, cost, wrong, least, x)
		}
	}
	if found < 100 || none < 30 || out < 1000 {
		t.Errorf("too few of a kind: %d found, %d not, %d left out", found, none, out)
	}
}

// P4: who is Than another one costs no more in the end, and all that the other one can be moved to is left out by what it can be moved to.
func TestWhoIsThanCostsNoMoreInTheEnd(t *testing.T) {
	s := lcg(10)
	ended, moved := 0, 0
	for turn := range 150 {
		x := scattered(&s, 1+turn%3, 1+s.below(9), 60+s.below(120))
		for l := []api.Node{{S: state.Root(x)}}; len(l) > 0; l = behind(x, l) {
			for turn := range min(len(l), 40) {
				b := l[(turn*7)%len(l)]
				a := but(b, func(n *api.Node) {
					n.S.Car, n.S.First = 1+s.below(b.S.Car), s.below(b.S.First+1)
					n.S.Time -= s.below(min(b.S.Time, 5) + 1)
					n.S.Load -= s.below(min(b.S.Load, 3) + 1)
					n.Cost -= s.below(3)
				})
				mustBe(t, "better or alike", a, b, true)
				least := leastFrom(x, b)
				if n := leastFrom(x, a); n > least {
					t.Errorf("it costs %d in the end, the other one %d: %+v and\n%+v of %+v", n, least, a, b, x)
				}
				if least < api.Inf {
					ended++
				}
				next := behind(x, []api.Node{a})
				for _, n := range behind(x, []api.Node{b}) {
					moved++
					if !slices.ContainsFunc(next, func(m api.Node) bool { return better.Than(m, n) }) {
						t.Errorf("nothing behind %+v is Than %+v, behind %+v, of %+v", a, n, b, x)
					}
				}
			}
		}
	}
	if ended < 500 || moved < 1000 {
		t.Errorf("too few of a kind: %d, %d", ended, moved)
	}
}

// The tests' own parts are made as they should be.
func TestWhatTheTestsAreMadeOf(t *testing.T) {
	if of() != 0 || of(1, 3) != 10 || of(63) != 1<<63 || !in(10, 3) || in(10, 2) {
		t.Error("of or in")
	}
	if !thanAsSaid(lesser(), middle()) || thanAsSaid(middle(), lesser()) || !thanAsSaid(middle(), middle()) {
		t.Error("thanAsSaid")
	}
	if l := frontAsSaid([]api.Node{at(1, 5), at(1, 3), at(1, 3, 1)}); len(l) != 1 || !alike(l[0], at(1, 3)) {
		t.Error("frontAsSaid")
	}
	if o := orders(at(1, 1), at(2, 2), at(3, 3)); len(o) != 6 || len(o[5]) != 3 {
		t.Error("orders")
	}
}
