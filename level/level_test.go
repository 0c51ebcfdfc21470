package level_test

import (
	"fmt"
	"math"
	"slices"
	"strings"
	"testing"

	"haulier/api"
	"haulier/bound"
	"haulier/inst"
	"haulier/level"
	"haulier/num"
	"haulier/plan"
	"haulier/relax"
	"haulier/state"
	"haulier/tour"
)

// lcg is a row of numbers that are spread out, the same in each run.
type lcg uint64

func (s *lcg) below(n int) int {
	*s = *s*6364136223846793005 + 1442695040888963407
	// The low bits of such a row repeat soon: only the high ones are taken.
	return int(uint64(*s) >> 33 % uint64(n))
}

// of is a set, made by hand.
func of(l ...int) uint64 {
	var s uint64
	for _, i := range l {
		s |= 1 << i
	}
	return s
}

// edges are numbers at which something could change, the least and the greatest that there are among them.
func edges() []int {
	return []int{
		math.MinInt, math.MinInt + 1, -1 << 62, -api.Inf, -1<<32 - 1, -1 << 32, -1 << 31, -256, -2, -1,
		0, 1, 2, 255, 256, 1 << 30, 1<<30 + 1, 1<<31 - 1, 1 << 32, 1<<32 + 1, api.Inf - 1, api.Inf, api.Inf + 1, 1 << 62, math.MaxInt - 1, math.MaxInt,
	}
}

// example is chapter 5's: one pair.
func example() api.Instance {
	return api.Instance{Pairs: 1, Cars: 1, Room: 5, Stops: []api.Stop{
		{X: 0, Y: 0, Demand: 0, Ready: 0, Due: 100, Service: 0},
		{X: 3, Y: 0, Demand: 2, Ready: 0, Due: 50, Service: 1},
		{X: 0, Y: 4, Demand: -2, Ready: 0, Due: 90, Service: 1},
	}}
}

// line are two pairs on a line, with room and time for all, and two cars. It is 10 to the yard from the nearest stop, and 1 to each other one: 14 from Root, at least.
func line() api.Instance {
	return api.Instance{Pairs: 2, Cars: 2, Room: 5, Stops: []api.Stop{
		{X: 0, Due: 1000},
		{X: 10, Demand: 1, Due: 1000},
		{X: 20, Demand: 1, Due: 1000},
		{X: 11, Demand: -1, Due: 1000},
		{X: 21, Demand: -1, Due: 1000},
	}}
}

// waiting are three pairs on a line, 10 from stop to stop; where they are brought all wait up to 500, so that many ways lead to one state.
func waiting() api.Instance {
	x := api.Instance{Pairs: 3, Cars: 3, Room: 9}
	for i := range 7 {
		s := api.Stop{X: 10 * i, Due: 1000}
		switch {
		case i == 0:
		case i <= 3:
			s.Demand = 1
		default:
			s.Demand, s.Ready = -1, 500
		}
		x.Stops = append(x.Stops, s)
	}
	return x
}

func noPairs() api.Instance {
	return api.Instance{Cars: 2, Room: 1, Stops: []api.Stop{{X: 4, Y: 5, Ready: 6, Due: 7}}}
}

// scattered is an instance of so many pairs, on so many places a side, whose times are as short.
func scattered(s *lcg, pairs, side, due int) api.Instance {
	x := api.Instance{Pairs: pairs, Cars: 1 + s.below(3), Room: 5 + s.below(10)}
	for i := range 2*pairs + 1 {
		p := api.Stop{X: s.below(side), Y: s.below(side), Ready: s.below(1 + due/2), Service: s.below(3)}
		p.Due = p.Ready + s.below(1+due)
		switch {
		case i == 0:
			p.Service, p.Ready = 0, p.Ready/4
			p.Due += due
		case i <= pairs:
			p.Demand = 1 + s.below(5)
		default:
			p.Due += due / 2
			p.Demand = -x.Stops[i-pairs].Demand
		}
		x.Stops = append(x.Stops, p)
	}
	return x
}

// with is x after a change.
func with(x api.Instance, change func(x *api.Instance)) api.Instance {
	x.Stops = slices.Clone(x.Stops)
	change(&x)
	return x
}

// wrongOnes are instances that may not be.
func wrongOnes() []api.Instance {
	wrong := []api.Instance{
		{},
		{Cars: 1, Room: 1},
		{Pairs: 1, Cars: 1, Room: 5, Stops: append(example().Stops, api.Stop{})},
		{Pairs: 1, Cars: 1, Room: 5, Stops: example().Stops[:2]},
		{Pairs: 17, Cars: 1, Room: 17, Stops: make([]api.Stop, 35)},
		{Pairs: 1 << 10, Cars: 1, Room: 1, Stops: make([]api.Stop, 1<<11+1)},
		with(noPairs(), func(x *api.Instance) { x.Cars = 0 }),
		with(noPairs(), func(x *api.Instance) { x.Stops[0].Due = 5 }),
	}
	for i := range 3 + 6*3 {
		for _, n := range []int{math.MinInt, -1001, -1, 1<<20 + 1, 1<<32 + 1, 1<<62 + 1, math.MaxInt} {
			x := example()
			l := []*int{&x.Pairs, &x.Cars, &x.Room}
			for k := range x.Stops {
				s := &x.Stops[k]
				l = append(l, &s.X, &s.Y, &s.Demand, &s.Ready, &s.Due, &s.Service)
			}
			*l[i] = n
			wrong = append(wrong, x)
		}
	}
	return wrong
}

// node is one by hand.
func node(s api.State, cost int, path ...int) api.Node { return api.Node{S: s, Cost: cost, Path: path} }

// but is n after a change; its path is its own.
func but(n api.Node, change func(n *api.Node)) api.Node {
	n.Path = slices.Clone(n.Path)
	change(&n)
	return n
}

// followed is the node behind moves from Root.
func followed(t *testing.T, x api.Instance, path ...int) api.Node {
	t.Helper()
	s, cost, err := state.Follow(x, path)
	if err != api.OK {
		t.Fatalf("Follow %d: %d", path, err)
	}
	return node(s, cost, path...)
}

// parts change each number and each set of a state, and nothing else.
func parts() map[string]func(s *api.State, by int) {
	return map[string]func(s *api.State, by int){
		"At":    func(s *api.State, by int) { s.At += by },
		"Car":   func(s *api.State, by int) { s.Car += by },
		"Time":  func(s *api.State, by int) { s.Time += by },
		"Load":  func(s *api.State, by int) { s.Load += by },
		"First": func(s *api.State, by int) { s.First += by },
		"Must":  func(s *api.State, by int) { s.Must += uint64(by) },
		"May":   func(s *api.State, by int) { s.May += uint64(by) },
		"On":    func(s *api.State, by int) { s.On += uint64(by) },
	}
}

// told is what is to be seen of some nodes: their paths, and what they cost.
func told(l []api.Node) string {
	var text []string
	for _, n := range l {
		text = append(text, fmt.Sprintf("%d: %d", n.Path, n.Cost))
	}
	return strings.Join(text, ", ")
}

// few are the first ones of many, to be told.
func few(l []api.Node) []api.Node { return l[:min(len(l), 8)] }

// onceAsSaid is P14.1 by the chapter's words: each node is held against each other one.
func onceAsSaid(l []api.Node) []api.Node {
	var once []api.Node
	for k, n := range l {
		sameState := func(m api.Node) bool { return m.S == n.S }
		if slices.ContainsFunc(l[:k], sameState) {
			continue
		}
		least := n
		for _, m := range l[k:] {
			if sameState(m) && m.Cost < least.Cost {
				least = m
			}
		}
		once = append(once, least)
	}
	return once
}

// sortedAsSaid is P14.2 by the chapter's words: each node stands behind as many as are to be ahead of it.
func sortedAsSaid(x api.Instance, l []api.Node) []api.Node {
	sorted := make([]api.Node, len(l))
	least := make([]int, len(l))
	for k, n := range l {
		least[k] = bound.Of(x, n)
	}
	for k, n := range l {
		ahead := 0
		for i := range l {
			if least[i] < least[k] || least[i] == least[k] && i < k {
				ahead++
			}
		}
		sorted[ahead] = n
	}
	return sorted
}

// answer is what Expand answers.
type answer struct {
	next []api.Node
	best api.Node
	is   bool
}

// behind are the nodes behind each move that can be made, node by node, rising, whatever they cost.
func behind(x api.Instance, l ...api.Node) []api.Node {
	var next []api.Node
	for _, n := range l {
		for j := -2; j <= 2*len(x.Stops); j++ {
			if s, far, is := state.Move(x, n.S, j); is {
				next = append(next, node(s, num.Sum(n.Cost, far), append(slices.Clone(n.Path), j)...))
			}
		}
	}
	return next
}

// expandAsSaid is P14.3 by the chapter's words.
func expandAsSaid(x api.Instance, l []api.Node, up int) answer {
	var a answer
	for _, n := range behind(x, l...) {
		if !(bound.Of(x, n) >= up) {
			a.next = append(a.next, n)
		}
	}
	a.next = onceAsSaid(a.next)
	for _, n := range l {
		if far, is := state.End(x, n.S); is {
			n.Cost = num.Sum(n.Cost, far)
			if !a.is || n.Cost < a.best.Cost {
				a.best, a.is = n, true
			}
		}
	}
	return a
}

// alike tells whether two nodes have all the same, their paths, too.
func alike(a, b api.Node) bool {
	return a.S == b.S && a.Cost == b.Cost && slices.Equal(a.Path, b.Path)
}

// guarded is a copy of a list, with room behind each path, in which nothing may be written.
func guarded(l []api.Node) []api.Node {
	l = slices.Clone(l)
	for k, n := range l {
		if n.Path != nil {
			l[k].Path = slices.Concat(n.Path, []int{-71, -72, -73})[:len(n.Path)]
		}
	}
	return l
}

// mustStay asks that a list is as it was, the room behind its paths, too.
func mustStay(t *testing.T, what string, l, was []api.Node) {
	t.Helper()
	for k, n := range was {
		more := min(len(n.Path)+3, cap(n.Path))
		if !alike(l[k], n) || !slices.Equal(l[k].Path[:more], n.Path[:more]) {
			t.Fatalf("%s: node %d is now %+v, it was %+v", what, k, l[k], n)
		}
	}
}

// mustOwn writes into all that was answered, and asks that nothing else of it changes.
func mustOwn(t *testing.T, what string, answered ...[]api.Node) {
	t.Helper()
	mark := 1000
	for _, l := range answered {
		for _, n := range l {
			mark++
			p := n.Path[:cap(n.Path)]
			for i := range p {
				p[i] = mark
			}
		}
	}
	mark = 1000
	for _, l := range answered {
		for _, n := range l {
			mark++
			if slices.ContainsFunc(n.Path[:cap(n.Path)], func(i int) bool { return i != mark }) {
				t.Fatalf("%s: two paths share something: %d", what, n.Path)
			}
		}
		l = l[:cap(l)]
		for k := range l {
			l[k] = api.Node{Cost: -98765}
		}
	}
}

// mustOnce asks for just these nodes as Once of a list.
func mustOnce(t *testing.T, what string, l []api.Node, want ...api.Node) {
	t.Helper()
	l, was := guarded(l), guarded(l)
	got := level.Once(l)
	if !slices.EqualFunc(got, want, alike) {
		t.Errorf("%s: Once: %d:\n%+v; want %d:\n%+v; of %d:\n%+v", what, len(got), few(got), len(want), few(want), len(l), few(l))
	}
	mustStay(t, what, l, was)
	mustOwn(t, what, got)
	mustStay(t, what+", the answer is changed", l, was)
}

// mustSort asks for just these nodes as Sorted.
func mustSort(t *testing.T, what string, x api.Instance, l []api.Node, want ...api.Node) {
	t.Helper()
	l, was := guarded(l), guarded(l)
	stops := slices.Clone(x.Stops)
	got := level.Sorted(x, l)
	if !slices.EqualFunc(got, want, alike) {
		t.Errorf("%s: Sorted: %d:\n%+v; want %d:\n%+v; of %d:\n%+v", what, len(got), few(got), len(want), few(want), len(l), few(l))
	}
	mustStay(t, what, l, was)
	mustOwn(t, what, got)
	mustStay(t, what+", the answer is changed", l, was)
	if !slices.Equal(x.Stops, stops) {
		t.Errorf("%s: the stops are now %+v, they were %+v", what, x.Stops, stops)
	}
}

// mustExpand asks for just this answer of Expand.
func mustExpand(t *testing.T, what string, x api.Instance, l []api.Node, up int, want answer) {
	t.Helper()
	l, was := guarded(l), guarded(l)
	stops := slices.Clone(x.Stops)
	next, best, is := level.Expand(x, l, up)
	if !slices.EqualFunc(next, want.next, alike) {
		t.Errorf("%s: Expand: %d:\n%+v; want %d:\n%+v; of %d:\n%+v\nup %d, %+v", what, len(next), few(next), len(want.next), few(want.next), len(l), few(l), up, x)
	}
	if is != want.is || !alike(best, want.best) {
		t.Errorf("%s: the best one that can be ended: %+v, %t; want %+v, %t; of %d:\n%+v\nof %+v", what, best, is, want.best, want.is, len(l), few(l), x)
	}
	mustStay(t, what, l, was)
	mustOwn(t, what, next, []api.Node{best})
	mustStay(t, what+", the answer is changed", l, was)
	if !slices.Equal(x.Stops, stops) {
		t.Errorf("%s: the stops are now %+v, they were %+v", what, x.Stops, stops)
	}
}

// next is Expand's answer, where it is just nodes behind others.
func next(l ...api.Node) answer { return answer{next: l} }

// end is Expand's answer, where it is just one that can be ended.
func end(n api.Node, cost int) answer {
	n.Cost = cost
	return answer{best: n, is: true}
}

// P14.3: the chapter's example, and on from there.
func TestExample(t *testing.T) {
	x := example()
	root := node(state.Root(x), 0)
	one := node(api.State{At: 1, Car: 1, Time: 4, Load: 2, First: 1, Must: of(1), May: of(1), On: of(1)}, 3, 1)
	both := node(api.State{At: 2, Car: 1, Time: 10, First: 1, Must: of(1, 2), May: of(1, 2)}, 8, 1, 2)
	mustExpand(t, "Root", x, []api.Node{root}, api.Inf, next(one))
	mustExpand(t, "behind Root", x, []api.Node{one}, api.Inf, next(both))
	mustExpand(t, "behind both stops", x, []api.Node{both}, api.Inf, end(both, 12))
	mustExpand(t, "all three", x, []api.Node{both, root, one}, api.Inf, answer{[]api.Node{one, both}, but(both, func(n *api.Node) { n.Cost = 12 }), true})
	// In the end they cost at least 11, 10 and 10.
	mustSort(t, "all three", x, []api.Node{both, one, root}, one, root, both)
	mustOnce(t, "all three", []api.Node{both, one, root}, both, one, root)
}

// P14.1: no nodes, and one.
func TestOnceOfFew(t *testing.T) {
	mustOnce(t, "nil", nil)
	mustOnce(t, "empty", []api.Node{})
	l := []api.Node{{}, {Cost: 5, Path: []int{}}, node(api.State{At: -1, Must: math.MaxUint64}, -4, 7, 8)}
	for _, n := range edges() {
		l = append(l, node(api.State{At: n, Time: -n, May: uint64(n)}, n, n))
	}
	for _, n := range l {
		mustOnce(t, "one", []api.Node{n}, n)
	}
}

// costing are nodes of one state, with these costs; the path of each is its number.
func costing(s api.State, costs ...int) []api.Node {
	var l []api.Node
	for k, cost := range costs {
		l = append(l, node(s, cost, k))
	}
	return l
}

// P14.1: of one state the one with the least Cost is left, of several the first one.
func TestOnceOfOneState(t *testing.T) {
	s := api.State{At: 3, Car: 1, Time: 9, Load: 2, First: 3, Must: of(3), May: of(3, 5), On: of(3)}
	for _, test := range []struct {
		what  string
		costs []int
		least int
	}{
		{"the first one", []int{1, 2, 3}, 0},
		{"behind it", []int{3, 1, 2}, 1},
		{"the last one", []int{3, 2, 1}, 2},
		{"all the same", []int{4, 4, 4, 4}, 0},
		{"the first one and the last one", []int{1, 2, 1}, 0},
		{"several behind the first one", []int{5, 1, 3, 1, 1}, 1},
		{"several, the last one, too", []int{5, 6, 1, 7, 1}, 2},
		{"falling, and again", []int{3, 3, 2, 2, 1, 1}, 4},
		{"rising behind falling", []int{3, 2, 1, 2, 3}, 2},
		{"0 and below 0", []int{0, -1, 0}, 1},
		{"below 0", []int{-2, -1, -3, -3}, 2},
		{"Inf and above", []int{api.Inf + 1, math.MaxInt, api.Inf, api.Inf}, 2},
		{"just below Inf", []int{api.Inf, api.Inf - 1}, 1},
		{"the least number", []int{0, math.MinInt + 1, math.MinInt, math.MinInt}, 2},
		{"the greatest number", []int{math.MaxInt, math.MaxInt}, 0},
		{"the greatest number and the least one", []int{math.MaxInt, math.MinInt}, 1},
		{"the least number and the greatest one", []int{math.MinInt, math.MaxInt}, 0},
	} {
		l := costing(s, test.costs...)
		mustOnce(t, test.what, l, l[test.least])
	}
	for _, a := range edges() {
		for _, b := range edges() {
			l := costing(s, a, b)
			least := l[0]
			if b < a {
				least = l[1]
			}
			mustOnce(t, fmt.Sprint("costs ", a, " and ", b), l, least)
		}
	}
	// Also where the paths are alike, or one has none.
	n := node(s, 1, 2, 3)
	mustOnce(t, "alike", []api.Node{n, n, n}, n)
	mustOnce(t, "no path", []api.Node{node(s, 1), n}, node(s, 1))
	mustOnce(t, "no path behind", []api.Node{n, node(s, 1)}, n)
	mustOnce(t, "noughts", make([]api.Node, 3), api.Node{})
}

// P14.1: states that differ in one part alone, by one or by another number, are none the same.
func TestOnceOfOtherStates(t *testing.T) {
	s := api.State{At: 3, Car: 1, Time: 9, Load: 2, First: 3, Must: of(3, 40), May: of(3, 40), On: of(3)}
	for name, change := range parts() {
		for _, by := range []int{1, -1, 2, 64, 256, 1 << 16, 1 << 31, 1 << 32, -1 << 32, 1 << 48, 1 << 60, math.MinInt} {
			a := node(s, 5, 1)
			b := but(a, func(n *api.Node) { change(&n.S, by); n.Cost, n.Path = 4, []int{2} })
			what := fmt.Sprint(name, " differs by ", by)
			mustOnce(t, what, []api.Node{a, b}, a, b)
			mustOnce(t, what+", the other way round", []api.Node{b, a}, b, a)
			mustOnce(t, what+", in turn", []api.Node{a, b, but(a, func(n *api.Node) { n.Cost-- }), but(b, func(n *api.Node) { n.Cost-- })},
				but(a, func(n *api.Node) { n.Cost-- }), but(b, func(n *api.Node) { n.Cost-- }))
		}
	}
	for i := range 64 {
		for name, at := range map[string]func(s *api.State) *uint64{
			"Must": func(s *api.State) *uint64 { return &s.Must },
			"May":  func(s *api.State) *uint64 { return &s.May },
			"On":   func(s *api.State) *uint64 { return &s.On },
		} {
			a := node(s, 5, 1)
			b := but(a, func(n *api.Node) { *at(&n.S) ^= of(i) })
			mustOnce(t, fmt.Sprint(name, " differs by stop ", i), []api.Node{a, b, a}, a, b)
		}
	}
	// What differs in two parts at once could be mixed up, if these were put together.
	for name, change := range parts() {
		for other, changeOther := range parts() {
			a := node(s, 5, 1)
			b := but(a, func(n *api.Node) { change(&n.S, 1); changeOther(&n.S, -1) })
			if name != other {
				mustOnce(t, name+" one more, "+other+" one less", []api.Node{a, b}, a, b)
			}
		}
	}
}

// P14.1: of several states, in turn, each stands in the place of its first node.
func TestOnceOfStatesInTurn(t *testing.T) {
	a, b, c := api.State{At: 1}, api.State{At: 2}, api.State{At: 1, Time: 1}
	mustOnce(t, "in turn", []api.Node{node(a, 5, 1), node(b, 4, 2), node(a, 3, 3), node(c, 9, 4), node(b, 2, 5), node(c, 9, 6), node(a, 3, 7)},
		node(a, 3, 3), node(b, 2, 5), node(c, 9, 4))
	mustOnce(t, "none twice", []api.Node{node(c, 1), node(a, 3), node(b, 2)}, node(c, 1), node(a, 3), node(b, 2))
	mustOnce(t, "a block of each", []api.Node{node(b, 2, 1), node(b, 1, 2), node(a, 1, 3), node(a, 1, 4), node(c, 0, 5), node(c, -1, 6)},
		node(b, 1, 2), node(a, 1, 3), node(c, -1, 6))
	mustOnce(t, "the first one again at the end", []api.Node{node(a, 5, 1), node(b, 1, 2), node(c, 1, 3), node(a, 4, 4)},
		node(a, 4, 4), node(b, 1, 2), node(c, 1, 3))
	mustOnce(t, "there and back", []api.Node{node(a, 1, 1), node(b, 2, 2), node(c, 3, 3), node(c, 2, 4), node(b, 2, 5), node(a, 2, 6)},
		node(a, 1, 1), node(b, 2, 2), node(c, 2, 4))
	// The example of the stage: the one that costs 3 stands where the one stood that costs 5.
	mustOnce(t, "noughts and another one", []api.Node{{Cost: 5}, node(a, 1), {Cost: 3}, node(api.State{}, 3, 1)}, api.Node{Cost: 3}, node(a, 1))
}

// P14.1: all lists of up to six out of two states and two costs, held against the chapter's words.
func TestOnceOfAllShortLists(t *testing.T) {
	kinds := []api.Node{{S: api.State{On: 1}}, {S: api.State{On: 1}, Cost: 1}, {S: api.State{On: 2}}, {S: api.State{On: 2}, Cost: 1}}
	var goOn func(l []api.Node)
	goOn = func(l []api.Node) {
		mustOnce(t, "short", l, onceAsSaid(l)...)
		for i := 0; len(l) < 6 && i < len(kinds); i++ {
			n := kinds[i]
			// The path tells which one of several is left.
			n.Path = []int{len(l)}
			goOn(append(slices.Clone(l), n))
		}
	}
	goOn(nil)
}

// someState is one of few, so that there are often two of it.
func someState(s *lcg, kinds int) api.State {
	var l [8]int
	for i := range l {
		l[i] = s.below(kinds)
	}
	return api.State{At: l[0], Car: l[1], Time: l[2], Load: l[3], First: l[4], Must: uint64(l[5]), May: uint64(l[6]), On: uint64(l[7])}
}

// someList are nodes of few states and costs; the path of each is its place.
func someList(s *lcg, length, kinds int) []api.Node {
	var states []api.State
	for range 1 + s.below(kinds) {
		states = append(states, someState(s, 2))
	}
	var l []api.Node
	for k := range length {
		cost := s.below(4) - 1
		if s.below(8) == 0 {
			cost = edges()[s.below(len(edges()))]
		}
		l = append(l, node(states[s.below(len(states))], cost, k, s.below(9)))
	}
	return l
}

// P14.1: many lists, held against the chapter's words.
func TestOnceOfManyLists(t *testing.T) {
	s := lcg(1)
	left, out := 0, 0
	for turn := range 2000 {
		l := someList(&s, turn%40, 1+turn%30)
		want := onceAsSaid(l)
		mustOnce(t, "many", l, want...)
		mustOnce(t, "once more", want, want...)
		left += len(want)
		out += len(l) - len(want)
	}
	if left < 5000 || out < 5000 {
		t.Errorf("too few of a kind: %d left, %d left out", left, out)
	}
}

// P14.1, P1: very many nodes, of very many states, and of one.
func TestOnceOfVeryMany(t *testing.T) {
	const many = 200000
	var other, same []api.Node
	for k := range many {
		other = append(other, node(api.State{Time: many - k}, k))
		same = append(same, node(api.State{Time: 1}, many-k, k))
	}
	mustOnce(t, "each of its own", other, other...)
	mustOnce(t, "each of its own, twice", slices.Concat(other, other), other...)
	mustOnce(t, "all of one", same, same[many-1])
}

// P14.2: no nodes, and one.
func TestSortedOfFew(t *testing.T) {
	for _, x := range []api.Instance{example(), line(), noPairs(), {}} {
		mustSort(t, "nil", x, nil)
		mustSort(t, "empty", x, []api.Node{})
		for _, n := range edges() {
			one := node(api.State{At: n, May: uint64(n)}, n, n, 1)
			mustSort(t, "one", x, []api.Node{one}, one)
		}
	}
}

// P14.2: by what they cost at least in the end; of such as have the same in the order of the list.
func TestSortedByHand(t *testing.T) {
	x := line()
	// So much may have been seen that it costs at least 14, 13, 12, 11 and 10 to go on; in the end 14, 13, 15, 14 and 13.
	none, one, two, three, four := node(api.State{}, 0, 1), node(api.State{May: of(1)}, 0, 2), node(api.State{May: of(1, 2)}, 3, 3), node(api.State{May: of(1, 2, 3)}, 3, 4), node(api.State{May: of(1, 2, 3, 4)}, 3, 5)
	mustSort(t, "mixed", x, []api.Node{none, one, two, three, four}, one, four, none, three, two)
	mustSort(t, "the other way round", x, []api.Node{four, three, two, one, none}, four, one, three, none, two)
	mustSort(t, "rising", x, []api.Node{one, four, none, three, two}, one, four, none, three, two)
	mustSort(t, "falling", x, []api.Node{two, none, one}, one, none, two)
	mustSort(t, "the same bound", x, []api.Node{three, none, three, none}, three, none, three, none)
	mustSort(t, "the same several times, between others", x, []api.Node{two, one, two, none, one}, one, one, none, two, two)
	// What has cost less has seen less, and stands behind.
	mustSort(t, "not by Cost alone", x, []api.Node{none, but(four, func(n *api.Node) { n.Cost = 1 })}, but(four, func(n *api.Node) { n.Cost = 1 }), none)
	mustSort(t, "by Cost", x, []api.Node{node(api.State{}, 3), node(api.State{}, 1), node(api.State{}, 2)}, node(api.State{}, 1), node(api.State{}, 2), node(api.State{}, 3))
	mustSort(t, "nothing else counts", x, []api.Node{node(api.State{At: 4, Car: 9, Time: 8, Load: 7, First: 6, Must: 5, On: 4}, 0), none}, node(api.State{At: 4, Car: 9, Time: 8, Load: 7, First: 6, Must: 5, On: 4}, 0), none)
}

// P14.2: nodes of which the bounds are all the same stay in the order of the list, however many they are.
func TestSortedOfTheSame(t *testing.T) {
	x := line()
	for _, length := range []int{2, 3, 11, 12, 13, 49, 50, 51, 100, 1000} {
		var l, halves, first, second []api.Node
		for k := range length {
			l = append(l, node(api.State{May: of(1 + k%4)}, 7, k))
			n := node(api.State{}, 5-k%2, k)
			halves = append(halves, n)
			if k%2 == 1 {
				first = append(first, n)
			} else {
				second = append(second, n)
			}
		}
		mustSort(t, fmt.Sprint(length, " of the same"), x, l, l...)
		mustSort(t, fmt.Sprint(length, " of two kinds"), x, halves, slices.Concat(first, second)...)
	}
}

// P14.2: costs below 0 count as 0, and those that come to Inf or more as Inf; of these the first one stands first.
func TestSortedCosts(t *testing.T) {
	x := line()
	at := func(cost, k int) api.Node { return node(api.State{}, cost, k) }
	mustSort(t, "below 0", x, []api.Node{at(1, 1), at(0, 2), at(-1, 3), at(-5, 4), at(math.MinInt, 5), at(0, 6)},
		at(0, 2), at(-1, 3), at(-5, 4), at(math.MinInt, 5), at(0, 6), at(1, 1))
	// It costs 14 at least to go on.
	mustSort(t, "Inf", x, []api.Node{at(math.MaxInt, 1), at(api.Inf, 2), at(api.Inf-14, 3), at(api.Inf-15, 4), at(api.Inf+1, 5), at(api.Inf-13, 6)},
		at(api.Inf-15, 4), at(math.MaxInt, 1), at(api.Inf, 2), at(api.Inf-14, 3), at(api.Inf+1, 5), at(api.Inf-13, 6))
	mustSort(t, "near the greatest number", x, []api.Node{at(math.MaxInt, 1), at(math.MaxInt-13, 2), at(math.MaxInt-14, 3), at(0, 4)},
		at(0, 4), at(math.MaxInt, 1), at(math.MaxInt-13, 2), at(math.MaxInt-14, 3))
	mustSort(t, "both ends", x, []api.Node{at(math.MaxInt, 1), at(math.MinInt, 2)}, at(math.MinInt, 2), at(math.MaxInt, 1))
}

// P14.2: where an instance may not be, or has no pairs, it is by Cost alone, as Sum tells it.
func TestSortedWithoutBounds(t *testing.T) {
	l := []api.Node{node(api.State{}, 3, 1), node(api.State{May: 2}, 3, 2), node(api.State{}, 2, 3), node(api.State{}, -4, 4), node(api.State{}, -5, 5), node(api.State{}, math.MaxInt, 6), node(api.State{}, api.Inf, 7)}
	want := []api.Node{l[3], l[4], l[2], l[0], l[1], l[5], l[6]}
	mustSort(t, "no pairs", noPairs(), l, want...)
	for _, x := range wrongOnes() {
		mustSort(t, "it may not be", x, l, want...)
	}
}

// P14.2: many lists, held against the chapter's words.
func TestSortedOfManyLists(t *testing.T) {
	s := lcg(2)
	for turn := range 1500 {
		x := scattered(&s, turn%4, 1+s.below(9), 50)
		l := someList(&s, turn%60, 30)
		for k := range l {
			l[k].S.May = uint64(s.below(1 << 9))
		}
		want := sortedAsSaid(x, l)
		mustSort(t, "many", x, l, want...)
		mustSort(t, "once more", x, want, want...)
	}
}

// P14.2, P1: very many nodes.
func TestSortedOfVeryMany(t *testing.T) {
	x := example()
	const many = 100000
	l := make([]api.Node, many)
	want := make([]api.Node, many)
	for k := range l {
		// 7 and many have no divisor in common: each cost from 0 on stands once.
		l[k] = node(api.State{}, k*7%many, k)
		want[k*7%many] = l[k]
	}
	mustSort(t, "very many", x, l, want...)
}

// P14.3: level by level, written out: moves rise within a node, and nodes stand in their order.
func TestLevelByLevel(t *testing.T) {
	x := line()
	l := []api.Node{followed(t, x)}
	for _, want := range []struct{ next, best string }{
		{"[1]: 10, [2]: 20", ""},
		{"[1 2]: 20, [1 3]: 11, [2 1]: 30, [2 4]: 21", ""},
		{"[1 2 3]: 29, [1 2 4]: 21, [1 3 0]: 22, [1 3 2]: 20, [2 1 3]: 31, [2 1 4]: 41, [2 4 0]: 42, [2 4 1]: 32", ""},
		{"[1 2 3 4]: 39, [1 2 4 3]: 31, [1 3 0 2]: 42, [1 3 2 4]: 21, [2 1 3 4]: 41, [2 1 4 3]: 51, [2 4 1 3]: 33", ""},
		{"[1 3 0 2 4]: 43", "[1 2 4 3]: 42"},
		{"", "[1 3 0 2 4]: 64"},
	} {
		next, best, is := level.Expand(x, l, api.Inf)
		if told(next) != want.next {
			t.Errorf("behind %s:\n%s; want\n%s", told(l), told(next), want.next)
		}
		ended := []api.Node{best}
		if !is {
			ended = nil
		}
		if told(ended) != want.best {
			t.Errorf("of %s\nthe best one that can be ended: %s; want %s", told(l), told(ended), want.best)
		}
		for _, n := range next {
			if !alike(n, followed(t, x, n.Path...)) {
				t.Errorf("it is %+v, but when it is followed %+v", n, followed(t, x, n.Path...))
			}
		}
		l = next
	}
	// In another order, and some twice.
	a, b, c := followed(t, x, 2), followed(t, x, 1, 3), followed(t, x)
	for _, test := range []struct {
		l    []api.Node
		want string
	}{
		{[]api.Node{a, b, c}, "[2 1]: 30, [2 4]: 21, [1 3 0]: 22, [1 3 2]: 20, [1]: 10, [2]: 20"},
		{[]api.Node{c, b, a}, "[1]: 10, [2]: 20, [1 3 0]: 22, [1 3 2]: 20, [2 1]: 30, [2 4]: 21"},
		{[]api.Node{b, b, b}, "[1 3 0]: 22, [1 3 2]: 20"},
		{[]api.Node{c, a, c}, "[1]: 10, [2]: 20, [2 1]: 30, [2 4]: 21"},
	} {
		if next, _, _ := level.Expand(x, test.l, api.Inf); told(next) != test.want {
			t.Errorf("behind %s:\n%s; want\n%s", told(test.l), told(next), test.want)
		}
	}
}

// P14.3: no nodes, and such from which nothing can be made.
func TestExpandOfNone(t *testing.T) {
	for _, x := range []api.Instance{example(), line(), noPairs(), {}} {
		for _, up := range edges() {
			mustExpand(t, "nil", x, nil, up, answer{})
			mustExpand(t, "empty", x, []api.Node{}, up, answer{})
		}
	}
	x := example()
	mustExpand(t, "noughts may not go on: no car", x, make([]api.Node, 2), api.Inf, answer{})
	late := but(followed(t, x, 1), func(n *api.Node) { n.S.Time = 86 })
	mustExpand(t, "it is too late", x, []api.Node{late}, api.Inf, answer{})
	late.S.Time = 85
	mustExpand(t, "just in time", x, []api.Node{late}, api.Inf, next(node(api.State{At: 2, Car: 1, Time: 91, First: 1, Must: of(1, 2), May: of(1, 2)}, 8, 1, 2)))
	late = but(followed(t, x, 1, 2), func(n *api.Node) { n.S.Time = 97 })
	mustExpand(t, "it is too late to end", x, []api.Node{late}, api.Inf, answer{})
	late.S.Time = 96
	mustExpand(t, "just in time to end", x, []api.Node{late}, api.Inf, end(late, 12))
}

// P14.3: nodes that can be ended and go on, that can only be ended, that can only go on, and that can do neither.
func TestExpandOfEachKind(t *testing.T) {
	x := line()
	// Where states were thrown together all stops may have been seen, but not all need be.
	joined, is := relax.Join(followed(t, x, 1, 2, 4).S, followed(t, x, 1, 3, 2, 4).S)
	if !is || joined.May != of(1, 2, 3, 4) || joined.Must != of(1, 2, 4) {
		t.Fatalf("Join: %+v, %t", joined, is)
	}
	both := node(joined, 50, 9)
	brought := node(api.State{At: 3, Car: 1, Time: joined.Time + 10, First: 1, Must: of(1, 2, 3, 4), May: of(1, 2, 3, 4)}, 60, 9, 3)
	back := node(api.State{At: 0, Car: 2, First: 1, Must: of(1, 2, 4), May: of(1, 2, 3, 4)}, 71, 9, 0)
	mustExpand(t, "both", x, []api.Node{both}, api.Inf, answer{[]api.Node{back, brought}, node(joined, 71, 9), true})
	onlyEnded, onlyOn := followed(t, x, 1, 3, 2, 4), followed(t, x, 1, 3, 2)
	mustExpand(t, "only ended", x, []api.Node{onlyEnded}, api.Inf, end(onlyEnded, 42))
	mustExpand(t, "only on", x, []api.Node{onlyOn}, api.Inf, next(onlyEnded))
	neither := but(onlyOn, func(n *api.Node) { n.S.Time = 1000 })
	mustExpand(t, "neither", x, []api.Node{neither}, api.Inf, answer{})
	mustExpand(t, "all kinds", x, []api.Node{neither, both, onlyOn, onlyEnded}, api.Inf,
		answer{[]api.Node{back, brought, onlyEnded}, but(onlyEnded, func(n *api.Node) { n.Cost = 42 }), true})
	mustExpand(t, "all kinds, and none costs little enough", x, []api.Node{onlyOn, onlyEnded, neither, both}, 10, end(onlyEnded, 42))
}

// P14.3: a node of which the bound is up is left out, with one more it is there; what can be ended is not held against it.
func TestExpandUp(t *testing.T) {
	x := line()
	root := followed(t, x)
	one, two := followed(t, x, 1), followed(t, x, 2)
	// Behind Root it costs 10 and 13 at least, or 20 and 13.
	for _, test := range []struct {
		up   int
		want answer
	}{
		{math.MinInt, answer{}}, {-api.Inf, answer{}}, {-1, answer{}}, {0, answer{}}, {1, answer{}}, {10, answer{}}, {22, answer{}},
		{23, answer{}}, {24, next(one)}, {32, next(one)}, {33, next(one)}, {34, next(one, two)},
		{api.Inf - 1, next(one, two)}, {api.Inf, next(one, two)}, {api.Inf + 1, next(one, two)}, {math.MaxInt, next(one, two)},
	} {
		mustExpand(t, fmt.Sprint("up ", test.up), x, []api.Node{root}, test.up, test.want)
	}
	all := followed(t, x, 1, 3, 2, 4)
	for _, up := range edges() {
		mustExpand(t, fmt.Sprint("it can be ended, up ", up), x, []api.Node{all}, up, end(all, 42))
	}
	// Each level of few pairs, at each number at which something could change.
	s := lcg(3)
	for turn := range 60 {
		x := scattered(&s, 1+turn%3, 12, 100)
		l := []api.Node{{S: state.Root(x), Cost: s.below(9)}}
		for len(l) > 0 {
			children := behind(x, l...)
			for _, n := range children[:min(len(children), 12)] {
				// Of all that lead to its state the one counts that costs least.
				least := api.Inf
				for _, m := range children {
					if m.S == n.S {
						least = min(least, bound.Of(x, m))
					}
				}
				for up := least - 1; up <= least+1; up++ {
					a := expandAsSaid(x, l, up)
					mustExpand(t, fmt.Sprint("up ", up), x, l, up, a)
					if is := slices.ContainsFunc(a.next, func(m api.Node) bool { return m.S == n.S }); is && up < least || !is && up > least {
						t.Fatalf("up %d, least %d: %t: %+v of %+v", up, least, is, n, x)
					}
				}
			}
			l = children[:min(len(children), 20)]
		}
	}
}

// P14.3: what a node has cost and its move come together as num's Sum: below 0 counts as 0, and Inf stays Inf; so does what it costs to end.
func TestExpandCosts(t *testing.T) {
	x := line()
	root, all := followed(t, x), followed(t, x, 1, 3, 2, 4)
	one, two := followed(t, x, 1), followed(t, x, 2)
	costing := func(n api.Node, cost int) api.Node { return but(n, func(n *api.Node) { n.Cost = cost }) }
	for _, test := range []struct{ cost, one, two, end int }{
		{0, 10, 20, 21}, {1, 11, 21, 22}, {-1, 10, 20, 21}, {-10, 10, 20, 21}, {-1 << 32, 10, 20, 21}, {-api.Inf, 10, 20, 21}, {math.MinInt, 10, 20, 21},
		{1 << 32, 1<<32 + 10, 1<<32 + 20, 1<<32 + 21},
		{api.Inf - 40, api.Inf - 30, api.Inf - 20, api.Inf - 19}, {api.Inf - 21, api.Inf - 11, api.Inf - 1, api.Inf}, {api.Inf - 20, api.Inf - 10, api.Inf, api.Inf},
		{api.Inf - 10, api.Inf, api.Inf, api.Inf}, {api.Inf, api.Inf, api.Inf, api.Inf}, {api.Inf + 1, api.Inf, api.Inf, api.Inf},
		{math.MaxInt - 5, api.Inf, api.Inf, api.Inf}, {math.MaxInt, api.Inf, api.Inf, api.Inf},
	} {
		what := fmt.Sprint("cost ", test.cost)
		// What is Inf in the end is not below Inf, but below the greatest number.
		mustExpand(t, what, x, []api.Node{costing(root, test.cost)}, math.MaxInt, next(costing(one, test.one), costing(two, test.two)))
		mustExpand(t, what+", up Inf + 1", x, []api.Node{costing(root, test.cost)}, api.Inf+1, next(costing(one, test.one), costing(two, test.two)))
		mustExpand(t, what+", to end", x, []api.Node{costing(all, test.cost)}, api.Inf, end(all, test.end))
		var left []api.Node
		for _, n := range []api.Node{costing(one, test.one), costing(two, test.two)} {
			if n.Cost+13 < api.Inf {
				left = append(left, n)
			}
		}
		mustExpand(t, what+", up Inf", x, []api.Node{costing(root, test.cost)}, api.Inf, next(left...))
	}
}

// P14.3: of a state to which several nodes lead the one is there that has cost least, of several the first one, in the place of the first one; but what costs too much takes no place.
func TestExpandToOneState(t *testing.T) {
	x := waiting()
	// Both have to wait at stop 4, and at 5; only the way that they came is another one.
	there, around := followed(t, x, 1, 2, 3), followed(t, x, 1, 3, 2)
	four, five, six := followed(t, x, 1, 2, 3, 4), followed(t, x, 1, 2, 3, 5), followed(t, x, 1, 2, 3, 6)
	fourAround, fiveAround, sixAround := followed(t, x, 1, 3, 2, 4), followed(t, x, 1, 3, 2, 5), followed(t, x, 1, 3, 2, 6)
	if four.S != fourAround.S || told([]api.Node{four, five, six, fourAround, fiveAround, sixAround}) != "[1 2 3 4]: 40, [1 2 3 5]: 50, [1 2 3 6]: 60, [1 3 2 4]: 60, [1 3 2 5]: 70, [1 3 2 6]: 80" {
		t.Fatal(told([]api.Node{four, five, six, fourAround, fiveAround, sixAround}))
	}
	mustExpand(t, "the first one costs less", x, []api.Node{there, around}, api.Inf, next(four, five, six))
	mustExpand(t, "the second one costs less", x, []api.Node{around, there}, api.Inf, next(four, five, six))
	more := but(there, func(n *api.Node) { n.Cost += 20 })
	as := func(n api.Node, cost int) api.Node { return but(n, func(n *api.Node) { n.Cost = cost }) }
	mustExpand(t, "the same", x, []api.Node{around, more}, api.Inf, next(fourAround, fiveAround, sixAround))
	mustExpand(t, "the same, the other way round", x, []api.Node{more, around}, api.Inf, next(as(four, 60), as(five, 70), as(six, 80)))
	// Others stand between: the place is that of the first one.
	other := followed(t, x, 1, 2)
	otherOn := behind(x, other)
	mustExpand(t, "others between", x, []api.Node{around, other, there}, api.Inf, next(slices.Concat([]api.Node{four, five, six}, otherOn)...))
	// In the end it costs 70, 80 and 90 at least, around 20 more: what is left out there takes no place.
	if least := bound.At(x, four.S); least != 30 {
		t.Fatalf("At: %d", least)
	}
	up := 91
	if slices.ContainsFunc(otherOn, func(n api.Node) bool { return bound.Of(x, n) >= up }) {
		t.Fatalf("the others are to be left: %s", told(otherOn))
	}
	mustExpand(t, "what costs too much takes no place", x, []api.Node{around, other, there}, up,
		next(slices.Concat([]api.Node{four}, otherOn, []api.Node{five, six})...))
	mustExpand(t, "what costs too much takes none from those that don't", x, []api.Node{there, other, around}, up,
		next(slices.Concat([]api.Node{four, five, six}, otherOn)...))
	// One state twice, with other costs and paths.
	cheap, dear := node(there.S, 3, 7), node(there.S, 4, 8)
	mustExpand(t, "one state, the first one is cheaper", x, []api.Node{cheap, dear}, api.Inf, next(behind(x, cheap)...))
	mustExpand(t, "one state, the second one is cheaper", x, []api.Node{dear, cheap}, api.Inf, next(behind(x, cheap)...))
	mustExpand(t, "one state, the first one of three", x, []api.Node{dear, cheap, node(there.S, 3, 9)}, api.Inf, next(behind(x, cheap)...))
	// Below 0 they come out the same: then it is the first one.
	mustExpand(t, "below 0", x, []api.Node{node(there.S, -1, 7), node(there.S, -2, 8)}, api.Inf, next(behind(x, node(there.S, 0, 7))...))
	mustExpand(t, "above Inf", x, []api.Node{node(there.S, api.Inf, 7), node(there.S, api.Inf-1, 8)}, math.MaxInt, next(behind(x, node(there.S, api.Inf, 7))...))
}

// P14.3: of the nodes that can be ended the one is told that costs least then, with that as its Cost and its path as it was; of several the first one.
func TestExpandEnds(t *testing.T) {
	x := line()
	// They cost 42, 42, 62 and 64 in the end.
	a, b, c, d := followed(t, x, 1, 3, 2, 4), followed(t, x, 1, 2, 4, 3), followed(t, x, 2, 1, 4, 3), followed(t, x, 1, 3, 0, 2, 4)
	if text := told([]api.Node{a, b, c, d}); text != "[1 3 2 4]: 21, [1 2 4 3]: 31, [2 1 4 3]: 51, [1 3 0 2 4]: 43" {
		t.Fatal(text)
	}
	root, on := followed(t, x), followed(t, x, 1, 3, 2)
	mustExpand(t, "one", x, []api.Node{c}, 0, end(c, 62))
	mustExpand(t, "the first one", x, []api.Node{a, c, d}, 0, end(a, 42))
	mustExpand(t, "the last one", x, []api.Node{c, d, a}, 0, end(a, 42))
	mustExpand(t, "between", x, []api.Node{d, a, c}, 0, end(a, 42))
	mustExpand(t, "the same, it is the first one", x, []api.Node{a, b}, 0, end(a, 42))
	mustExpand(t, "the same, the other way round", x, []api.Node{b, a}, 0, end(b, 42))
	mustExpand(t, "the same, behind one that costs more", x, []api.Node{d, b, c, a}, 0, end(b, 42))
	// d has cost less than c, but costs more in the end.
	mustExpand(t, "it is what it costs in the end", x, []api.Node{d, c}, 0, end(c, 62))
	mustExpand(t, "among such as can't be ended", x, []api.Node{root, on, d, on, c, root}, 0, end(c, 62))
	mustExpand(t, "none can be ended", x, []api.Node{root, on, root}, 0, answer{})
	// Of one state the paths alone tell which one it is.
	mustExpand(t, "one state", x, []api.Node{node(a.S, 5, 1), node(a.S, 4, 2), node(a.S, 4, 3), node(a.S, 6)}, 0, end(node(a.S, 4, 2), 25))
	mustExpand(t, "no path", x, []api.Node{node(a.S, 4), node(a.S, 4, 2)}, 0, end(node(a.S, 4), 25))
	// Below 0 they cost the same in the end, and so above Inf.
	mustExpand(t, "below 0", x, []api.Node{node(a.S, -4, 1), node(a.S, -5, 2), node(a.S, 0, 3)}, 0, end(node(a.S, -4, 1), 21))
	mustExpand(t, "Inf", x, []api.Node{node(a.S, math.MaxInt, 1), node(a.S, api.Inf, 2), node(a.S, api.Inf-21, 3)}, 0, end(node(a.S, math.MaxInt, 1), api.Inf))
	mustExpand(t, "just below Inf", x, []api.Node{node(a.S, math.MaxInt, 1), node(a.S, api.Inf-22, 2)}, 0, end(node(a.S, api.Inf-22, 2), api.Inf-1))
	mustExpand(t, "Inf alone", x, []api.Node{node(a.S, math.MaxInt, 1)}, 0, end(node(a.S, 0, 1), api.Inf))
}

// P14.3: without pairs only Root can be ended, at no cost, and nothing goes on.
func TestExpandWithoutPairs(t *testing.T) {
	x := noPairs()
	root := state.Root(x)
	for _, up := range edges() {
		mustExpand(t, "Root", x, []api.Node{node(root, 0)}, up, end(node(root, 0), 0))
	}
	mustExpand(t, "Root, with a cost and a path", x, []api.Node{node(root, 5, 1, 2)}, api.Inf, end(node(root, 5, 1, 2), 5))
	mustExpand(t, "Root, below 0", x, []api.Node{node(root, -5)}, api.Inf, end(node(root, 0), 0))
	mustExpand(t, "Root, above Inf", x, []api.Node{node(root, math.MaxInt)}, api.Inf, end(node(root, 0), api.Inf))
	mustExpand(t, "Root several times", x, []api.Node{node(root, 5, 1), node(root, 4, 2), node(root, 4, 3)}, api.Inf, end(node(root, 4, 2), 4))
	for name, change := range parts() {
		for _, by := range []int{1, -1} {
			n := node(root, 0)
			change(&n.S, by)
			mustExpand(t, name+" is another one", x, []api.Node{n}, api.Inf, answer{})
			mustExpand(t, name+" is another one, and Root", x, []api.Node{n, node(root, 3, 4)}, api.Inf, end(node(root, 3, 4), 3))
		}
	}
}

// P14.3, P1: nothing goes on, or is ended, where an instance may not be.
func TestExpandOfWhatMayNotBe(t *testing.T) {
	x := example()
	l := []api.Node{followed(t, x), followed(t, x, 1), followed(t, x, 1, 2), {}, node(state.Root(noPairs()), 0)}
	for _, wrong := range wrongOnes() {
		if inst.May(wrong) {
			t.Fatalf("it may be: %+v", wrong)
		}
		for _, up := range []int{math.MinInt, 0, api.Inf, math.MaxInt} {
			mustExpand(t, "it may not be", wrong, l, up, answer{})
		}
	}
}

// P14.3, P1: states with any numbers and sets.
func TestExpandOfAnyStates(t *testing.T) {
	x := line()
	whole := followed(t, x, 1, 3, 2)
	var l []api.Node
	for _, m := range edges() {
		for _, change := range parts() {
			l = append(l, but(whole, func(n *api.Node) { change(&n.S, m); n.Cost = m }), but(followed(t, x, 1, 3, 2, 4), func(n *api.Node) { change(&n.S, m) }))
		}
	}
	for _, n := range l {
		mustExpand(t, "any state", x, []api.Node{n}, math.MaxInt, expandAsSaid(x, []api.Node{n}, math.MaxInt))
	}
	for _, up := range edges() {
		mustExpand(t, "any states", x, l, up, expandAsSaid(x, l, up))
	}
}

// someNodes are nodes of an instance, some of them as they come from Root, some thrown together, some changed, some several times.
func someNodes(s *lcg, x api.Instance, length int) []api.Node {
	var l []api.Node
	for len(l) < length {
		n := node(state.Root(x), s.below(9)-2)
		for range s.below(2*len(x.Stops) + 1) {
			if b := behind(x, n); len(b) > 0 {
				n = b[s.below(len(b))]
			}
		}
		if joined, is := relax.Join(n.S, but(n, func(n *api.Node) { n.S.Must &^= of(s.below(9)); n.S.May |= of(s.below(9)); n.S.On = 0 }).S); is && s.below(3) == 0 {
			n.S = joined
		}
		if s.below(20) == 0 {
			n.Cost = edges()[s.below(len(edges()))]
		}
		for range 1 + s.below(2) {
			l = append(l, but(n, func(n *api.Node) { n.Cost += s.below(3) }))
		}
	}
	return l
}

// P14.3: many lists, held against the chapter's words.
func TestExpandOfManyLists(t *testing.T) {
	s := lcg(4)
	left, out, twice, ended, not := 0, 0, 0, 0, 0
	for turn := range 1500 {
		x := scattered(&s, turn%5, 1+s.below(20), 50+s.below(200))
		l := someNodes(&s, x, turn%25)
		for _, up := range []int{s.below(100), s.below(30), api.Inf, edges()[s.below(len(edges()))]} {
			want := expandAsSaid(x, l, up)
			mustExpand(t, "many", x, l, up, want)
			left += len(want.next)
			if up == api.Inf {
				children := behind(x, l...)
				twice += len(children) - len(onceAsSaid(children))
			}
			out += len(behind(x, l...)) - len(want.next)
			if want.is {
				ended++
			} else {
				not++
			}
		}
	}
	if left < 5000 || out < 5000 || twice < 1000 || ended < 1000 || not < 500 {
		t.Errorf("too few of a kind: %d left, %d left out, %d twice, %d ended, %d not", left, out, twice, ended, not)
	}
}

// way is what follows a node, up to its end, and what it costs then.
type way struct {
	moves []int
	cost  int
}

// waysFrom are all that a node can be followed by, and be ended.
func waysFrom(x api.Instance, n api.Node) []way {
	var ways []way
	if far, is := state.End(x, n.S); is {
		ways = append(ways, way{nil, num.Sum(n.Cost, far)})
	}
	for _, b := range behind(x, n) {
		for _, w := range waysFrom(x, b) {
			ways = append(ways, way{append([]int{b.Path[len(b.Path)-1]}, w.moves...), w.cost})
		}
	}
	return ways
}

// goesOn tells what it costs to follow just these moves from a node, and to end; false: it can't be.
func goesOn(x api.Instance, n api.Node, moves []int) (int, bool) {
	s, cost := n.S, n.Cost
	for _, j := range moves {
		there, far, is := state.Move(x, s, j)
		if !is {
			return 0, false
		}
		s, cost = there, num.Sum(cost, far)
	}
	far, is := state.End(x, s)
	return num.Sum(cost, far), is
}

// mustLoseNothing asks that all ways of a list that cost less than up go on behind it for no more, or end there.
func mustLoseNothing(t *testing.T, x api.Instance, l []api.Node, up int) (on, ended int) {
	t.Helper()
	next, best, is := level.Expand(x, l, up)
	for _, n := range l {
		for _, w := range waysFrom(x, n) {
			switch {
			case w.cost >= up:
			case len(w.moves) == 0:
				ended++
				if !is || best.Cost > w.cost {
					t.Errorf("%+v ends for %d; the best one is %+v, %t; of %+v", n, w.cost, best, is, x)
				}
			default:
				on++
				mustGoOn(t, x, n, w, next)
			}
		}
	}
	return on, ended
}

// mustGoOn asks for a node behind the first move of a way that has cost no more, from which the rest of it can be gone.
func mustGoOn(t *testing.T, x api.Instance, n api.Node, w way, next []api.Node) {
	t.Helper()
	there, far, _ := state.Move(x, n.S, w.moves[0])
	goes := func(m api.Node) bool {
		cost, is := goesOn(x, m, w.moves[1:])
		return m.S == there && m.Cost <= num.Sum(n.Cost, far) && is && cost <= w.cost
	}
	if !slices.ContainsFunc(next, goes) {
		t.Errorf("%+v can be followed by %d for %d, but no node goes on with it: %s of %+v", n, w.moves, w.cost, told(next), x)
	}
}

// P14.4: with few pairs, level by level from Root, and all ways that there are.
func TestNoWayIsLost(t *testing.T) {
	s := lcg(5)
	on, ended := 0, 0
	for turn := range 120 {
		x := scattered(&s, turn%3, 1+s.below(12), 50+s.below(150))
		if turn%20 == 19 {
			x = scattered(&s, 3, 1+s.below(12), 50+s.below(100))
		}
		l := []api.Node{{S: state.Root(x)}}
		for len(l) > 0 {
			for _, up := range []int{api.Inf, s.below(60), math.MaxInt} {
				a, b := mustLoseNothing(t, x, l, up)
				on, ended = on+a, ended+b
			}
			l = behind(x, l...)
			for len(l) > 40 {
				l = slices.Delete(l, s.below(len(l)-1), len(l)-1)
			}
		}
	}
	if on < 1000 || ended < 100 {
		t.Errorf("too few of a kind: %d, %d", on, ended)
	}
}

// P14.4: also from nodes that were thrown together or changed, and with costs of all kinds.
func TestNoWayIsLostFromSomeNodes(t *testing.T) {
	s := lcg(6)
	on, ended := 0, 0
	for turn := range 300 {
		x := scattered(&s, 1+turn%2, 1+s.below(12), 50+s.below(150))
		l := someNodes(&s, x, 6)
		for _, up := range []int{api.Inf, s.below(60)} {
			a, b := mustLoseNothing(t, x, l, up)
			on, ended = on+a, ended+b
		}
	}
	if on < 1000 || ended < 100 {
		t.Errorf("too few of a kind: %d, %d", on, ended)
	}
}

// P4, P14.4: level by level from Root, with what was found as the bound: the best one costs as little as any way, and is a plan that costs that.
func TestLevelsFindTheBest(t *testing.T) {
	s := lcg(7)
	found, none := 0, 0
	for turn := range 400 {
		x := scattered(&s, turn%4, 1+s.below(25), 20+s.below(100))
		root := node(state.Root(x), 0)
		want := api.Inf
		for _, w := range waysFrom(x, root) {
			want = min(want, w.cost)
		}
		best, least := api.Node{}, api.Inf
		for l := []api.Node{root}; len(l) > 0; {
			next, end, is := level.Expand(x, l, least)
			if is && end.Cost < least {
				best, least = end, end.Cost
			}
			l = next
		}
		if least != want {
			t.Errorf("%d is found, but it can be done for %d; of %+v", least, want, x)
		}
		if least == api.Inf {
			none++
			continue
		}
		found++
		p, err := tour.Split(best.Path)
		if cost, wrong := plan.Cost(x, p); err != api.OK || wrong != api.OK || cost != least {
			t.Errorf("%d: Split: %d; it costs %d, %d; found for %d; of %+v", best.Path, err, cost, wrong, least, x)
		}
	}
	if found < 50 || none < 20 {
		t.Errorf("too few of a kind: %d found, %d not", found, none)
	}
}

// R3: what is answered stays as it is when all that was handed in is changed.
func TestAnswersStay(t *testing.T) {
	x := waiting()
	l := []api.Node{followed(t, x, 1, 2, 3), followed(t, x, 1, 3, 2), followed(t, x, 1, 2, 3, 4, 5, 6), followed(t, x, 1, 2, 3, 6, 5, 4)}
	l = slices.Concat(l, l[:2])
	once, sorted := level.Once(l), level.Sorted(x, l)
	next, best, is := level.Expand(x, l, api.Inf)
	wasOnce, wasSorted, wasNext, wasBest := guarded(once), guarded(sorted), guarded(next), guarded([]api.Node{best})
	if len(once) != 4 || len(sorted) != 6 || len(next) != 3 || !is || len(best.Path) != 6 {
		t.Fatalf("%s; %s; %s; %s, %t", told(once), told(sorted), told(next), told(wasBest), is)
	}
	for k := range l {
		for i := range l[k].Path {
			l[k].Path[i] = -9
		}
		l[k] = api.Node{Cost: -9}
	}
	for k := range x.Stops {
		x.Stops[k] = api.Stop{}
	}
	for _, both := range [][2][]api.Node{{once, wasOnce}, {sorted, wasSorted}, {next, wasNext}, {{best}, wasBest}} {
		if !slices.EqualFunc(both[0], both[1], alike) {
			t.Errorf("it is now %+v, it was %+v", both[0], both[1])
		}
	}
}

// R3: nodes whose paths are one list get paths of their own; nothing is written behind a path that has room there.
func TestPathsThatShare(t *testing.T) {
	x := waiting()
	row := []int{1, 2, 3, 4, 5, 6, 0}
	sharing := func() []api.Node {
		return []api.Node{node(followed(t, x, 1).S, 10, row[:1]...), {S: followed(t, x, 1, 2).S, Cost: 20, Path: row[:2]}, {S: followed(t, x, 1, 2, 3).S, Cost: 30, Path: row[:3]}}
	}
	l := sharing()
	next, _, _ := level.Expand(x, l, api.Inf)
	if want := "[1 2]: 20, [1 3]: 30, [1 4]: 40, [1 2 3]: 30, [1 2 4]: 40, [1 2 5]: 50, [1 2 3 4]: 40, [1 2 3 5]: 50, [1 2 3 6]: 60"; told(next) != want {
		t.Errorf("%s; want %s", told(next), want)
	}
	once, sorted := level.Once(l), level.Sorted(x, l)
	mustOwn(t, "paths of one list", next, once, sorted)
	if !slices.Equal(row, []int{1, 2, 3, 4, 5, 6, 0}) {
		t.Errorf("the paths' list is now %d", row)
	}
	end := api.Node{S: followed(t, x, 1, 2, 3, 4, 5, 6).S, Cost: 60, Path: row[:6]}
	_, best, is := level.Expand(x, []api.Node{end, end}, api.Inf)
	if !is || told([]api.Node{best}) != "[1 2 3 4 5 6]: 120" {
		t.Errorf("%s, %t", told([]api.Node{best}), is)
	}
	mustOwn(t, "one that is ended", []api.Node{best})
	if !slices.Equal(row, []int{1, 2, 3, 4, 5, 6, 0}) {
		t.Errorf("the paths' list is now %d", row)
	}
}

// R5: nothing hangs on what was asked before.
func TestAskedAgain(t *testing.T) {
	s := lcg(8)
	type asked struct {
		x api.Instance
		l []api.Node
	}
	var all []asked
	for turn := range 20 {
		x := scattered(&s, 1+turn%4, 10, 200)
		all = append(all, asked{x, someNodes(&s, x, 20)})
	}
	for range 3 {
		for _, a := range all {
			mustOnce(t, "again", a.l, onceAsSaid(a.l)...)
			mustSort(t, "again", a.x, a.l, sortedAsSaid(a.x, a.l)...)
			mustExpand(t, "again", a.x, a.l, 50, expandAsSaid(a.x, a.l, 50))
		}
	}
	// Of one instance other stops are asked for, at the same place in memory.
	x := line()
	root := node(state.Root(x), 0)
	mustExpand(t, "ahead", x, []api.Node{root}, 24, expandAsSaid(x, []api.Node{root}, 24))
	for i := range x.Stops {
		x.Stops[i].X *= 2
	}
	mustExpand(t, "twice as far", x, []api.Node{root}, 24, answer{})
}

// The tests' own parts are made as they should be.
func TestWhatTheTestsAreMadeOf(t *testing.T) {
	for _, x := range []api.Instance{example(), line(), waiting(), noPairs()} {
		if !inst.May(x) {
			t.Errorf("it may not be: %+v", x)
		}
	}
	if of() != 0 || of(1, 3) != 10 || len(parts()) != 8 {
		t.Error("of, or parts")
	}
	if text := told(onceAsSaid([]api.Node{{Cost: 3, Path: []int{1}}, {S: api.State{At: 1}}, {Cost: 2, Path: []int{2}}})); text != "[2]: 2, []: 0" {
		t.Error("onceAsSaid: " + text)
	}
	if text := told(sortedAsSaid(noPairs(), []api.Node{{Cost: 3}, {Cost: 1}, {Cost: 2}, {Cost: 1, Path: []int{1}}})); text != "[]: 1, [1]: 1, []: 2, []: 3" {
		t.Error("sortedAsSaid: " + text)
	}
	if a := expandAsSaid(line(), []api.Node{{S: state.Root(line())}}, 33); told(a.next) != "[1]: 10" || a.is {
		t.Errorf("expandAsSaid: %+v", a)
	}
	if l := waysFrom(line(), node(state.Root(line()), 0)); len(l) != 7 {
		t.Errorf("waysFrom: %+v", l)
	}
	if cost, is := goesOn(example(), node(state.Root(example()), 1), []int{1, 2}); cost != 13 || !is {
		t.Errorf("goesOn: %d, %t", cost, is)
	}
}
