package narrow_test

import (
	"fmt"
	"math"
	"slices"
	"testing"

	"haulier/api"
	"haulier/bound"
	"haulier/exact"
	"haulier/inst"
	"haulier/narrow"
	"haulier/num"
	"haulier/plan"
	"haulier/relax"
	"haulier/state"
	"haulier/tour"
)

// lcg is a row of numbers that are spread out, the same in each run.
type lcg uint64

func (s *lcg) below(n int) int {
	*s = *s*6364136223846793005 + 1442695040888963407
	// The low bits of such a row repeat soon: only the high ones are taken.
	return int(uint64(*s) >> 33 % uint64(n))
}

// of is a set, made by hand.
func of(l ...int) uint64 {
	var s uint64
	for _, i := range l {
		s |= 1 << i
	}
	return s
}

// edges are numbers at which something could change, the least and the greatest that there are among them.
func edges() []int {
	return []int{
		math.MinInt, math.MinInt + 1, -1 << 62, -api.Inf, -1<<32 - 1, -1 << 32, -1 << 31, -256, -2, -1,
		0, 1, 2, 255, 256, 1 << 30, 1<<30 + 1, 1<<31 - 1, 1 << 32, 1<<32 + 1, api.Inf - 1, api.Inf, api.Inf + 1, 1 << 62, math.MaxInt - 1, math.MaxInt,
	}
}

// example is chapter 5's: one pair.
func example() api.Instance {
	return api.Instance{Pairs: 1, Cars: 1, Room: 5, Stops: []api.Stop{
		{X: 0, Y: 0, Demand: 0, Ready: 0, Due: 100, Service: 0},
		{X: 3, Y: 0, Demand: 2, Ready: 0, Due: 50, Service: 1},
		{X: 0, Y: 4, Demand: -2, Ready: 0, Due: 90, Service: 1},
	}}
}

// line are two pairs on a line, with room and time for all, and two cars. The best plans, 1 2 4 3 and 1 3 2 4, cost 42.
func line() api.Instance {
	return api.Instance{Pairs: 2, Cars: 2, Room: 5, Stops: []api.Stop{
		{X: 0, Due: 1000},
		{X: 10, Demand: 1, Due: 1000},
		{X: 20, Demand: 1, Due: 1000},
		{X: 11, Demand: -1, Due: 1000},
		{X: 21, Demand: -1, Due: 1000},
	}}
}

// waiting are three pairs on a line, 10 from stop to stop; where they are brought all wait up to 500, so that many ways lead to one state.
func waiting() api.Instance {
	x := api.Instance{Pairs: 3, Cars: 3, Room: 9}
	for i := range 7 {
		s := api.Stop{X: 10 * i, Due: 1000}
		switch {
		case i == 0:
		case i <= 3:
			s.Demand = 1
		default:
			s.Demand, s.Ready = -1, 500
		}
		x.Stops = append(x.Stops, s)
	}
	return x
}

// sides are two pairs, one on each side of the yard, with room and time for all: a car of its own for each costs 44, and so does one for both.
func sides() api.Instance {
	return api.Instance{Pairs: 2, Cars: 2, Room: 5, Stops: []api.Stop{
		{X: 100, Due: 1000},
		{X: 110, Demand: 1, Due: 1000},
		{X: 90, Demand: 1, Due: 1000},
		{X: 111, Demand: -1, Due: 1000},
		{X: 89, Demand: -1, Due: 1000},
	}}
}

// dearSides are sides at such times that one car for both has to go there and back, and costs 64.
func dearSides() api.Instance {
	x := sides()
	x.Stops[1].Due, x.Stops[2].Due, x.Stops[3].Ready = 10, 50, 100
	return x
}

// threeSides are dearSides, and a third pair on a side of its own: one car costs 74, two 60, three 66.
func threeSides() api.Instance {
	return api.Instance{Pairs: 3, Cars: 3, Room: 5, Stops: []api.Stop{
		{X: 100, Y: 100, Due: 1000},
		{X: 110, Y: 100, Demand: 1, Due: 10},
		{X: 90, Y: 100, Demand: 1, Due: 50},
		{X: 100, Y: 110, Demand: 1, Due: 1000},
		{X: 111, Y: 100, Demand: -1, Ready: 100, Due: 1000},
		{X: 89, Y: 100, Demand: -1, Due: 1000},
		{X: 100, Y: 111, Demand: -1, Due: 1000},
	}}
}

func noPairs() api.Instance {
	return api.Instance{Cars: 2, Room: 1, Stops: []api.Stop{{X: 4, Y: 5, Ready: 6, Due: 7}}}
}

// scattered is an instance of so many pairs, on so many places a side, whose times are as short.
func scattered(s *lcg, pairs, side, due int) api.Instance {
	x := api.Instance{Pairs: pairs, Cars: 1 + s.below(3), Room: 5 + s.below(10)}
	for i := range 2*pairs + 1 {
		p := api.Stop{X: s.below(side), Y: s.below(side), Ready: s.below(1 + due/2), Service: s.below(3)}
		p.Due = p.Ready + s.below(1+due)
		switch {
		case i == 0:
			p.Service, p.Ready = 0, p.Ready/4
			p.Due += due
		case i <= pairs:
			p.Demand = 1 + s.below(5)
		default:
			p.Due += due / 2
			p.Demand = -x.Stops[i-pairs].Demand
		}
		x.Stops = append(x.Stops, p)
	}
	return x
}

// with is x after a change.
func with(x api.Instance, change func(x *api.Instance)) api.Instance {
	x.Stops = slices.Clone(x.Stops)
	change(&x)
	return x
}

// wrongOnes are instances that may not be.
func wrongOnes() []api.Instance {
	wrong := []api.Instance{
		{},
		{Cars: 1, Room: 1},
		{Pairs: 1, Cars: 1, Room: 5, Stops: append(example().Stops, api.Stop{})},
		{Pairs: 1, Cars: 1, Room: 5, Stops: example().Stops[:2]},
		{Pairs: 17, Cars: 1, Room: 17, Stops: make([]api.Stop, 35)},
		{Pairs: 1 << 10, Cars: 1, Room: 1, Stops: make([]api.Stop, 1<<11+1)},
		with(noPairs(), func(x *api.Instance) { x.Cars = 0 }),
		with(noPairs(), func(x *api.Instance) { x.Stops[0].Due = 5 }),
	}
	for i := range 3 + 6*3 {
		for _, n := range []int{math.MinInt, -1001, -1, 1<<20 + 1, 1<<32 + 1, 1<<62 + 1, math.MaxInt} {
			x := example()
			l := []*int{&x.Pairs, &x.Cars, &x.Room}
			for k := range x.Stops {
				s := &x.Stops[k]
				l = append(l, &s.X, &s.Y, &s.Demand, &s.Ready, &s.Due, &s.Service)
			}
			*l[i] = n
			wrong = append(wrong, x)
		}
	}
	return wrong
}

// node is one by hand.
func node(s api.State, cost int, path ...int) api.Node { return api.Node{S: s, Cost: cost, Path: path} }

// but is n after a change; its path is its own.
func but(n api.Node, change func(n *api.Node)) api.Node {
	n.Path = slices.Clone(n.Path)
	change(&n)
	return n
}

// costing is n, at another cost.
func costing(n api.Node, cost int) api.Node {
	return but(n, func(n *api.Node) { n.Cost = cost })
}

// followed is the node behind moves from Root.
func followed(t *testing.T, x api.Instance, path ...int) api.Node {
	t.Helper()
	s, cost, err := state.Follow(x, path)
	if err != api.OK {
		t.Fatalf("Follow %d: %d", path, err)
	}
	return node(s, cost, path...)
}

// thrown is a node of line in which two were thrown together: all stops may have been seen there, but stop 3 need not. It can be ended for 71, and go on.
func thrown(t *testing.T) api.Node {
	t.Helper()
	x := line()
	joined, is := relax.Join(followed(t, x, 1, 2, 4).S, followed(t, x, 1, 3, 2, 4).S)
	if !is || joined.May != of(1, 2, 3, 4) || joined.Must != of(1, 2, 4) {
		t.Fatalf("Join: %+v, %t", joined, is)
	}
	return node(joined, 50, 9)
}

// loose is a node of waiting at which all may have been seen, but only stop 1 must: it can be ended for 10, and go on to all stops, and to the yard.
func loose() api.Node {
	return node(api.State{At: 1, Car: 1, First: 1, Must: of(1), May: of(1, 2, 3, 4, 5, 6)}, 0, 7)
}

// parts change each number and each set of a state, and nothing else.
func parts() map[string]func(s *api.State, by int) {
	return map[string]func(s *api.State, by int){
		"At":    func(s *api.State, by int) { s.At += by },
		"Car":   func(s *api.State, by int) { s.Car += by },
		"Time":  func(s *api.State, by int) { s.Time += by },
		"Load":  func(s *api.State, by int) { s.Load += by },
		"First": func(s *api.State, by int) { s.First += by },
		"Must":  func(s *api.State, by int) { s.Must += uint64(by) },
		"May":   func(s *api.State, by int) { s.May += uint64(by) },
		"On":    func(s *api.State, by int) { s.On += uint64(by) },
	}
}

// answer is what Best answers.
type answer struct {
	best  api.Node
	is    bool
	steps int
}

// onceAsSaid is chapter 14's Once by its words.
func onceAsSaid(l []api.Node) []api.Node {
	var once []api.Node
	for k, n := range l {
		sameState := func(m api.Node) bool { return m.S == n.S }
		if slices.ContainsFunc(l[:k], sameState) {
			continue
		}
		for _, m := range l[k:] {
			if sameState(m) && m.Cost < n.Cost {
				n = m
			}
		}
		once = append(once, n)
	}
	return once
}

// behind are the nodes behind each move that can be made, node by node, rising, whatever they cost.
func behind(x api.Instance, l ...api.Node) []api.Node {
	var next []api.Node
	for _, n := range l {
		for j := 0; j <= 2*len(x.Stops); j++ {
			if s, far, is := state.Move(x, n.S, j); is {
				next = append(next, node(s, num.Sum(n.Cost, far), append(slices.Clone(n.Path), j)...))
			}
		}
	}
	return next
}

// nextAsSaid are the nodes that chapter 14's Expand answers, by its words.
func nextAsSaid(x api.Instance, l []api.Node, up int) []api.Node {
	var next []api.Node
	for _, n := range behind(x, l...) {
		if !(bound.Of(x, n) >= up) {
			next = append(next, n)
		}
	}
	return onceAsSaid(next)
}

// endedAsSaid is the best node that can be ended of chapter 14's Expand, by its words.
func endedAsSaid(x api.Instance, l []api.Node) (api.Node, bool) {
	var best api.Node
	found := false
	for _, n := range l {
		far, is := state.End(x, n.S)
		if !is {
			continue
		}
		n.Cost = num.Sum(n.Cost, far)
		if !found || n.Cost < best.Cost {
			best, found = n, true
		}
	}
	return best, found
}

// sortedAsSaid is chapter 14's Sorted by its words: each node stands behind as many as are to be ahead of it.
func sortedAsSaid(x api.Instance, l []api.Node) []api.Node {
	sorted := make([]api.Node, len(l))
	least := make([]int, len(l))
	for k, n := range l {
		least[k] = bound.Of(x, n)
	}
	for k, n := range l {
		ahead := 0
		for i := range l {
			if least[i] < least[k] || least[i] == least[k] && i < k {
				ahead++
			}
		}
		sorted[ahead] = n
	}
	return sorted
}

// fewAsSaid are the first ones of some nodes: so many, but at least one; all, if there are no more.
func fewAsSaid(l []api.Node, width int) []api.Node {
	var few []api.Node
	for k, n := range l {
		if k == 0 || k < width {
			few = append(few, n)
		}
	}
	return few
}

// levelsAsSaid are all levels by the chapter's words, each with the bound that it is expanded with, and the best one that is found on them.
func levelsAsSaid(x api.Instance, n api.Node, width, up int) ([][]api.Node, api.Node, bool) {
	var best api.Node
	var levels [][]api.Node
	found := false
	for l := []api.Node{n}; len(l) > 0; {
		levels = append(levels, l)
		next := nextAsSaid(x, l, up)
		if end, is := endedAsSaid(x, l); is && end.Cost < up {
			best, found, up = end, true, end.Cost
		}
		l = fewAsSaid(sortedAsSaid(x, next), width)
	}
	return levels, best, found
}

// bestAsSaid is P16.1 by the chapter's words.
func bestAsSaid(x api.Instance, n api.Node, width, up int) answer {
	levels, best, is := levelsAsSaid(x, n, width, up)
	a := answer{best: best, is: is}
	for _, l := range levels {
		a.steps += len(l)
	}
	return a
}

// widths are how many nodes each level has.
func widths(x api.Instance, n api.Node, width, up int) []int {
	var wide []int
	levels, _, _ := levelsAsSaid(x, n, width, up)
	for _, l := range levels {
		wide = append(wide, len(l))
	}
	return wide
}

// alike tells whether two nodes have all the same, their paths, too.
func alike(a, b api.Node) bool {
	return a.S == b.S && a.Cost == b.Cost && slices.Equal(a.Path, b.Path)
}

// guarded is n with a path of its own, and room behind it, in which nothing may be written.
func guarded(n api.Node) api.Node {
	n.Path = slices.Concat(n.Path, []int{-71, -72, -73})[:len(n.Path)]
	return n
}

// mustStay asks that a node is as it was, the room behind its path, too.
func mustStay(t *testing.T, what string, n, was api.Node) {
	t.Helper()
	room := len(was.Path) + 3
	if !alike(n, was) || !slices.Equal(n.Path[:room], was.Path[:room]) {
		t.Fatalf("%s: the node is now %+v, it was %+v", what, n, was)
	}
}

// mustBest asks for just this answer of Best, and that the node and the stops stay as they were.
func mustBest(t *testing.T, what string, x api.Instance, n api.Node, width, up int, want answer) {
	t.Helper()
	stops := slices.Clone(x.Stops)
	given, was := guarded(n), guarded(n)
	best, is, steps := narrow.Best(x, given, width, up)
	if !alike(best, want.best) || is != want.is || steps != want.steps {
		t.Errorf("%s: Best: %+v, %t, %d;\nwant %+v, %t, %d;\nof %+v, width %d, up %d, %+v", what, best, is, steps, want.best, want.is, want.steps, n, width, up, x)
	}
	mustStay(t, what, given, was)
	room := best.Path[:cap(best.Path)]
	for i := range room {
		room[i] = -98765
	}
	mustStay(t, what+", the answer is changed", given, was)
	if !slices.Equal(x.Stops, stops) {
		t.Errorf("%s: the stops are now %+v, they were %+v", what, x.Stops, stops)
	}
}

// mustBeWide asks that levels are so wide, by the chapter's words.
func mustBeWide(t *testing.T, x api.Instance, n api.Node, width, up int, want ...int) {
	t.Helper()
	if wide := widths(x, n, width, up); !slices.Equal(wide, want) {
		t.Fatalf("width %d, up %d: so wide are levels: %d, not %d", width, up, wide, want)
	}
}

// found is the answer that this is the best one.
func found(best api.Node, cost, steps int) answer {
	return answer{costing(best, cost), true, steps}
}

// none is the answer that there is none.
func none(steps int) answer { return answer{steps: steps} }

// P16.1: the chapter's example, at all widths and bounds.
func TestExample(t *testing.T) {
	x := example()
	root := node(state.Root(x), 0)
	both := node(api.State{At: 2, Car: 1, Time: 10, First: 1, Must: of(1, 2), May: of(1, 2)}, 8, 1, 2)
	mustBest(t, "Root", x, root, 1, api.Inf, found(both, 12, 3))
	for _, width := range edges() {
		what := fmt.Sprint("width ", width)
		// It costs 10 at least behind the first move, and 11 behind the second one.
		for _, test := range []struct {
			up   int
			want answer
		}{
			{math.MinInt, none(1)}, {-api.Inf, none(1)}, {-1, none(1)}, {0, none(1)}, {1, none(1)}, {9, none(1)}, {10, none(1)}, {11, none(2)}, {12, none(3)},
			{13, found(both, 12, 3)}, {14, found(both, 12, 3)}, {api.Inf - 1, found(both, 12, 3)}, {api.Inf, found(both, 12, 3)}, {math.MaxInt, found(both, 12, 3)},
		} {
			mustBest(t, fmt.Sprint(what, ", up ", test.up), x, root, width, test.up, test.want)
		}
		mustBest(t, what+", behind the first move", x, followed(t, x, 1), width, api.Inf, found(both, 12, 2))
		mustBest(t, what+", behind both", x, both, width, api.Inf, found(both, 12, 1))
	}
	late := with(x, func(x *api.Instance) { x.Stops[0].Due = 13 })
	mustBest(t, "there is no plan: it comes back too late", late, root, 1, api.Inf, none(3))
	late.Stops[0].Due = 14
	mustBest(t, "it comes back just in time", late, root, 1, api.Inf, found(both, 12, 3))
}

// P16.1: a level has as many nodes as the width tells, and at least one; all, if there are no more.
func TestWidth(t *testing.T) {
	x := line()
	root := node(state.Root(x), 0)
	best := followed(t, x, 1, 3, 2, 4)
	mustBeWide(t, x, root, math.MaxInt, api.Inf, 1, 2, 4, 8, 7, 1)
	mustBeWide(t, x, root, 1, api.Inf, 1, 1, 1, 1, 1)
	mustBeWide(t, x, root, 3, api.Inf, 1, 2, 3, 3, 3, 1)
	for _, test := range []struct{ width, steps int }{
		{math.MinInt, 5}, {math.MinInt + 1, 5}, {-1 << 32, 5}, {-2, 5}, {-1, 5}, {0, 5}, {1, 5}, {2, 9}, {3, 13}, {4, 16}, {5, 18}, {6, 20},
		{7, 22}, {8, 23}, {9, 23}, {23, 23}, {api.MaxWidth, 23}, {1 << 32, 23}, {1<<32 + 1, 23}, {api.Inf, 23}, {math.MaxInt - 1, 23}, {math.MaxInt, 23},
	} {
		mustBest(t, fmt.Sprint("width ", test.width), x, root, test.width, api.Inf, found(best, 42, test.steps))
	}
	// With a bound levels have fewer nodes.
	mustBeWide(t, x, root, math.MaxInt, 43, 1, 2, 4, 5, 2)
	mustBest(t, "up 43, the widest level", x, root, 5, 43, found(best, 42, 14))
	mustBest(t, "up 43, one fewer", x, root, 4, 43, found(best, 42, 13))
	y := waiting()
	root = node(state.Root(y), 0)
	best = followed(t, y, 1, 2, 3, 4, 5, 6)
	mustBeWide(t, y, root, math.MaxInt, api.Inf, 1, 3, 9, 27, 45, 72, 62, 12)
	mustBeWide(t, y, root, 71, api.Inf, 1, 3, 9, 27, 45, 71, 60, 11)
	for _, test := range []struct{ width, steps int }{{-1, 7}, {0, 7}, {1, 7}, {2, 13}, {3, 19}, {4, 24}, {12, 60}, {71, 227}, {72, 231}, {73, 231}, {math.MaxInt, 231}} {
		mustBest(t, fmt.Sprint("waiting, width ", test.width), y, root, test.width, api.Inf, found(best, 120, test.steps))
	}
}

// P16.1: with fewer nodes to a level it may find a dearer one, or none where there is one.
func TestFewTellLess(t *testing.T) {
	x := threeSides()
	root := node(state.Root(x), 0)
	three, two := followed(t, x, 1, 4, 0, 2, 5, 0, 3, 6), followed(t, x, 1, 4, 0, 2, 5, 3, 6)
	for _, test := range []struct {
		width int
		want  answer
	}{{-1, found(three, 66, 9)}, {1, found(three, 66, 9)}, {2, found(three, 66, 15)}, {3, found(three, 66, 21)}, {4, found(two, 60, 27)}, {5, found(two, 60, 33)}, {22, found(two, 60, 97)}, {math.MaxInt, found(two, 60, 97)}} {
		mustBest(t, fmt.Sprint("width ", test.width), x, root, test.width, api.Inf, test.want)
	}
	// Stop 2 has to be the first one; but behind stop 1 it costs 23 at least, behind stop 2 it costs 25.
	trap := with(line(), func(x *api.Instance) { x.Cars, x.Stops[2].X, x.Stops[2].Due, x.Stops[4].X = 1, 12, 12, 13 })
	trap.Stops[0].X, trap.Stops[1].X, trap.Stops[3].X = 24, 34, 35
	root = node(state.Root(trap), 0)
	best := followed(t, trap, 2, 4, 1, 3)
	for _, width := range []int{math.MinInt, -1, 0, 1} {
		mustBest(t, fmt.Sprint("trap, width ", width), trap, root, width, api.Inf, none(3))
	}
	for _, width := range []int{2, 3, math.MaxInt} {
		a := bestAsSaid(trap, root, width, api.Inf)
		mustBest(t, fmt.Sprint("trap, width ", width), trap, root, width, api.Inf, found(best, 46, a.steps))
	}
}

// star are three pairs on three sides of the yard, as far from it, and one car, which has to go to one of them first.
func star(first int) api.Instance {
	x := threeSides()
	x.Cars = 1
	for k := range x.Stops {
		x.Stops[k].Ready, x.Stops[k].Due = 0, 1000
	}
	x.Stops[first].Due = 10
	return x
}

// P16.1: of nodes that cost as much in the end, where a level is cut, the first ones stay.
func TestEqualsAtTheCut(t *testing.T) {
	for first, best := range map[int][]int{1: {1, 4, 3, 6, 2, 5}, 2: {2, 5, 3, 6, 1, 4}, 3: {3, 6, 1, 4, 2, 5}} {
		x := star(first)
		root := node(state.Root(x), 0)
		for _, n := range behind(x, root) {
			if bound.Of(x, n) != 25 {
				t.Fatalf("in the end it costs %d at least: %+v", bound.Of(x, n), n)
			}
		}
		for width := -1; width < 30; width++ {
			a := bestAsSaid(x, root, width, api.Inf)
			if a.is != (max(1, width) >= first) || a.is && !slices.Equal(a.best.Path, best) {
				t.Errorf("stop %d is to be the first one, width %d: as said it is %+v", first, width, a)
			}
			mustBest(t, fmt.Sprint("stop ", first, " is to be the first one, width ", width), x, root, width, api.Inf, a)
		}
	}
	mustBest(t, "stop 3 is to be the first one, width 2", star(3), node(state.Root(star(3)), 0), 2, api.Inf, none(9))
	// What they have cost till then does not count: 12 and 10, but 27 in the end, at least.
	x := with(sides(), func(x *api.Instance) { x.Stops[1].X, x.Stops[3].X = 112, 115 })
	y := with(x, func(y *api.Instance) {
		y.Stops[1], y.Stops[2] = x.Stops[2], x.Stops[1]
		y.Stops[3], y.Stops[4] = x.Stops[4], x.Stops[3]
	})
	for _, z := range []api.Instance{x, y} {
		root := node(state.Root(z), 0)
		l := behind(z, root)
		if len(l) != 2 || bound.Of(z, l[0]) != 27 || bound.Of(z, l[1]) != 27 || l[0].Cost+l[1].Cost != 22 {
			t.Fatalf("%+v", l)
		}
		mustBest(t, fmt.Sprint("stop 1 for ", l[0].Cost), z, root, 1, api.Inf, found(followed(t, z, 1, 3, 0, 2, 4), 52, 6))
	}
}

// P16.1: those nodes come first that cost less in the end, not those that have cost less till then, or that stood first.
func TestTheFirstOnes(t *testing.T) {
	x := with(sides(), func(x *api.Instance) { x.Cars, x.Stops[1].X, x.Stops[3].X, x.Stops[4].X = 1, 108, 109, 85 })
	root := node(state.Root(x), 0)
	l := behind(x, root)
	if len(l) != 2 || l[0].Cost != 8 || l[1].Cost != 10 || bound.Of(x, l[0]) != 27 || bound.Of(x, l[1]) != 25 {
		t.Fatalf("%+v", l)
	}
	mustBest(t, "behind stop 2 it costs less in the end", x, root, 1, api.Inf, found(followed(t, x, 2, 4, 1, 3), 48, 5))
	if a := bestAsSaid(x, root, 2, api.Inf); !a.is || a.best.Path[0] != 1 {
		t.Fatalf("as said it is %+v", a)
	}
	for width := range 10 {
		mustBest(t, fmt.Sprint("width ", width), x, root, width, api.Inf, bestAsSaid(x, root, width, api.Inf))
	}
	// With a second car it goes to the yard behind stop 4: that costs less, but no car may begin with stop 1 then.
	x.Cars = 2
	mustBest(t, "two cars", x, root, 1, api.Inf, none(4))
}

// P16.1: nodes that another one leaves without use stay, so that there are more steps than exact takes.
func TestNoFront(t *testing.T) {
	for _, test := range []struct {
		x           api.Instance
		few, as     int
		path, exact []int
	}{
		{line(), 23, 17, []int{1, 3, 2, 4}, []int{1, 2, 4, 3}},
		{waiting(), 231, 87, []int{1, 2, 3, 4, 5, 6}, []int{1, 2, 3, 4, 5, 6}},
		{sides(), 23, 19, []int{1, 3, 2, 4}, []int{1, 3, 2, 4}},
		{threeSides(), 97, 76, []int{1, 4, 0, 2, 5, 3, 6}, []int{1, 4, 3, 6, 0, 2, 5}},
	} {
		root := node(state.Root(test.x), 0)
		best, is, all, steps := exact.Best(test.x, root, api.Inf, math.MaxInt)
		if !is || !all || steps != test.as || !slices.Equal(best.Path, test.exact) {
			t.Fatalf("exact: %+v, %t, %t, %d", best, is, all, steps)
		}
		mustBest(t, "all of them", test.x, root, math.MaxInt, api.Inf, found(followed(t, test.x, test.path...), best.Cost, test.few))
	}
	// They take places from others, too: just 20 of 27, where 18 are of use.
	x := waiting()
	root := node(state.Root(x), 0)
	mustBeWide(t, x, root, 20, api.Inf, 1, 3, 9, 20, 20, 20, 17)
	mustBest(t, "some of them", x, root, 20, api.Inf, found(followed(t, x, 1, 2, 3, 4, 5, 6), 120, 90))
}

// P16.1: the best one costs less than up, or there is none.
func TestUp(t *testing.T) {
	x := line()
	root := node(state.Root(x), 0)
	best := followed(t, x, 1, 3, 2, 4)
	// Behind Root it costs 23 at least, or 33.
	for _, test := range []struct {
		up   int
		want answer
	}{
		{math.MinInt, none(1)}, {-api.Inf, none(1)}, {-1 << 32, none(1)}, {-1, none(1)}, {0, none(1)}, {1, none(1)}, {23, none(1)}, {24, none(3)},
		{42, none(12)}, {43, found(best, 42, 14)},
		{api.Inf - 1, found(best, 42, 23)}, {api.Inf, found(best, 42, 23)}, {api.Inf + 1, found(best, 42, 23)}, {math.MaxInt, found(best, 42, 23)},
	} {
		mustBest(t, fmt.Sprint("up ", test.up), x, root, 9, test.up, test.want)
	}
	for _, test := range []struct {
		up   int
		want answer
	}{{23, none(1)}, {24, none(3)}, {42, none(5)}, {43, found(best, 42, 5)}, {api.Inf, found(best, 42, 5)}, {math.MaxInt, found(best, 42, 5)}} {
		mustBest(t, fmt.Sprint("width 1, up ", test.up), x, root, 1, test.up, test.want)
	}
	// The first level has just n, whatever it costs at least.
	for _, up := range edges() {
		want := none(1)
		if up > 42 {
			want = found(best, 42, 1)
		}
		for _, width := range edges() {
			mustBest(t, fmt.Sprint("it can only be ended, width ", width, ", up ", up), x, best, width, up, want)
		}
	}
	for up := 20; up < 70; up++ {
		for width := range 10 {
			mustBest(t, fmt.Sprint("width ", width, ", up ", up), x, root, width, up, bestAsSaid(x, root, width, up))
		}
	}
}

// P16.1: nodes that can be ended and go on, that can only be ended, that can only go on, and that can do neither.
func TestEachKind(t *testing.T) {
	x := line()
	both := thrown(t)
	mustBest(t, "both", x, both, 9, api.Inf, found(both, 71, 3))
	mustBest(t, "both, width 1", x, both, 1, api.Inf, found(both, 71, 2))
	mustBest(t, "both, at what it costs", x, both, 9, 71, none(2))
	mustBest(t, "both, at one more", x, both, 9, 72, found(both, 71, 2))
	mustBest(t, "both, where the yard is not too dear", x, both, 9, 82, found(both, 71, 3))
	ended, on := followed(t, x, 1, 3, 2, 4), followed(t, x, 1, 3, 2)
	neither := but(on, func(n *api.Node) { n.S.Time = 1000 })
	for _, width := range edges() {
		what := fmt.Sprint("width ", width)
		mustBest(t, what+", only ended", x, ended, width, api.Inf, found(ended, 42, 1))
		mustBest(t, what+", only ended, at what it costs", x, ended, width, 42, none(1))
		mustBest(t, what+", only ended, at one more", x, ended, width, 43, found(ended, 42, 1))
		mustBest(t, what+", only on", x, on, width, api.Inf, found(ended, 42, 2))
		for _, up := range edges() {
			mustBest(t, fmt.Sprint(what, ", neither, up ", up), x, neither, width, up, none(1))
			mustBest(t, fmt.Sprint(what, ", noughts, up ", up), x, api.Node{}, width, up, none(1))
		}
	}
}

// P16.1: one that is found on an early level is beaten by one that a later level finds for less, and by no other.
func TestLaterLevels(t *testing.T) {
	dear := dearSides()
	root := node(state.Root(dear), 0)
	early, later := followed(t, dear, 1, 2, 4, 3), followed(t, dear, 1, 3, 0, 2, 4)
	levels, _, _ := levelsAsSaid(dear, root, 4, api.Inf)
	if end, is := endedAsSaid(dear, levels[4]); !is || !alike(end, costing(early, 64)) {
		t.Fatalf("on the fifth level it is %+v, %t", end, is)
	}
	mustBest(t, "the early one costs 64", dear, early, 9, api.Inf, found(early, 64, 1))
	mustBest(t, "a later one costs 44", dear, root, 4, api.Inf, found(later, 44, 14))
	mustBest(t, "up 64: the early one is not found", dear, root, 4, 64, found(later, 44, 13))
	mustBest(t, "up 44: none of both is found", dear, root, 4, 44, bestAsSaid(dear, root, 4, 44))
	one := with(dear, func(x *api.Instance) { x.Cars = 1 })
	mustBest(t, "there is just one car", one, root, 9, api.Inf, found(early, 64, bestAsSaid(one, root, 9, api.Inf).steps))
	same := sides()
	mustBeWide(t, same, root, math.MaxInt, api.Inf, 1, 2, 4, 8, 7, 1)
	mustBest(t, "a later one costs the same: the earlier one stays", same, root, 8, api.Inf, found(followed(t, same, 1, 3, 2, 4), 44, 23))
	mustBest(t, "width 5: the earlier one is there, too", same, root, 5, api.Inf, found(followed(t, same, 1, 3, 2, 4), 44, 17))
	mustBest(t, "width 4: the earlier one is cut off", same, root, 4, api.Inf, found(followed(t, same, 1, 3, 0, 2, 4), 44, 15))
	x := line()
	mustBest(t, "a later one costs more", x, node(state.Root(x), 0), 8, api.Inf, found(followed(t, x, 1, 3, 2, 4), 42, 23))
	mustBest(t, "the later one alone", x, followed(t, x, 1, 3, 0), 8, api.Inf, found(followed(t, x, 1, 3, 0, 2, 4), 64, 3))
	// It is 71 on the first level, and 71 again behind stop 3.
	n := thrown(t)
	levels, _, _ = levelsAsSaid(x, n, 9, api.Inf)
	if end, is := endedAsSaid(x, levels[1]); !is || end.Cost != 71 {
		t.Fatalf("on the second level it is %+v, %t", end, is)
	}
	mustBest(t, "on the first level, and the same on the second one", x, n, 9, api.Inf, found(n, 71, 3))
}

// P16.1: what is found is the bound from then on: later levels have fewer nodes, or none; but the level just behind it came of the bound as it was.
func TestTheBoundFalls(t *testing.T) {
	x := threeSides()
	root := node(state.Root(x), 0)
	mustBeWide(t, x, root, math.MaxInt, api.Inf, 1, 3, 7, 16, 21, 22, 17, 9, 1)
	mustBest(t, "three levels find one, the second of them the best one", x, root, 99, api.Inf, found(followed(t, x, 1, 4, 0, 2, 5, 3, 6), 60, 97))
	// On a line it costs 60 to go back from stop 6, whatever lies between; less is left behind each level, as that is known from the first one on.
	y, n := waiting(), but(loose(), func(n *api.Node) { n.S.At, n.S.First, n.S.Must = 6, 3, of(3, 6) })
	mustBest(t, "later levels have fewer nodes", y, n, 99, api.Inf, found(n, 60, 1+5+4+1))
	mustBest(t, "up is one more from the start: the second one has, too", y, n, 99, 61, found(n, 60, 1+4+4+1))
	mustBest(t, "width 3", y, n, 3, api.Inf, found(n, 60, 1+3+3+1))
	mustBest(t, "later levels have none", y, loose(), 99, api.Inf, found(loose(), 10, 1+6))
	mustBest(t, "later levels have none, width 1", y, loose(), 1, api.Inf, found(loose(), 10, 1+1))
	root = node(state.Root(y), 0)
	mustBest(t, "the last level has none", y, root, 99, api.Inf, found(followed(t, y, 1, 2, 3, 4, 5, 6), 120, 231))
	// Were the bound as at first, or were it at once what each level finds, there would be more nodes, or fewer.
	for _, test := range []struct {
		n                    api.Node
		width, stays, atOnce int
	}{{n, 99, 67, 9}, {loose(), 99, 354, 1}, {loose(), 1, 7, 1}, {root, 99, 232, 219}} {
		if stays, atOnce := stepsIf(y, test.n, test.width, false), stepsIf(y, test.n, test.width, true); stays != test.stays || atOnce != test.atOnce {
			t.Errorf("it can't be told whether the bound falls: %d, %d", stays, atOnce)
		}
	}
}

// stepsIf are how many steps it took, if the bound stayed Inf, or if what a level finds bounded the one just behind it.
func stepsIf(x api.Instance, n api.Node, width int, atOnce bool) int {
	steps, up := 0, api.Inf
	for l := []api.Node{n}; len(l) > 0; l = fewAsSaid(sortedAsSaid(x, nextAsSaid(x, l, up)), width) {
		steps += len(l)
		if end, is := endedAsSaid(x, l); is && atOnce {
			up = min(up, end.Cost)
		}
	}
	return steps
}

// P16.1: the bound may be above Inf: then what costs Inf is found, too.
func TestAboveInf(t *testing.T) {
	x := line()
	all := followed(t, x, 1, 3, 2, 4)
	for _, cost := range []int{api.Inf - 21, api.Inf - 20, api.Inf - 1, api.Inf, api.Inf + 1, math.MaxInt} {
		n := costing(all, cost)
		what := fmt.Sprint("cost ", cost)
		mustBest(t, what+", up Inf", x, n, 9, api.Inf, none(1))
		mustBest(t, what+", up Inf + 1", x, n, 9, api.Inf+1, found(n, api.Inf, 1))
		mustBest(t, what+", up the greatest number", x, n, 9, math.MaxInt, found(n, api.Inf, 1))
	}
	n := costing(all, api.Inf-22)
	mustBest(t, "just below Inf", x, n, 9, api.Inf, found(n, api.Inf-1, 1))
	mustBest(t, "just below Inf, up as much", x, n, 9, api.Inf-1, none(1))
	mustBest(t, "just below Inf, up the greatest number", x, n, 9, math.MaxInt, found(n, api.Inf-1, 1))
	// All that goes on at cost Inf costs as much: the first ones stay.
	for width := -1; width < 12; width++ {
		n := costing(followed(t, x), api.Inf)
		a := bestAsSaid(x, n, width, math.MaxInt)
		if !a.is || a.best.Cost != api.Inf || a.best.Path[0] != 1 {
			t.Errorf("as said it is %+v", a)
		}
		mustBest(t, fmt.Sprint("Root at cost Inf, width ", width), x, n, width, math.MaxInt, a)
	}
	mustBest(t, "Root at cost Inf, width 1", x, costing(followed(t, x), api.Inf), 1, math.MaxInt, found(followed(t, x, 1, 2, 3, 4), api.Inf, 5))
}

// P16.1: what n has cost counts, as num's Sum tells it: below 0 it counts as 0, and Inf stays Inf.
func TestCosts(t *testing.T) {
	x := line()
	root, best := followed(t, x), followed(t, x, 1, 3, 2, 4)
	for _, width := range []int{1, 3, 9} {
		for _, test := range []struct{ cost, end int }{
			{0, 42}, {1, 43}, {7, 49}, {-1, 42}, {-42, 42}, {-1 << 32, 42}, {-api.Inf, 42}, {math.MinInt, 42}, {1 << 32, 1<<32 + 42}, {api.Inf - 100, api.Inf - 58}, {api.Inf - 43, api.Inf - 1},
		} {
			n := costing(root, test.cost)
			what := fmt.Sprint("width ", width, ", cost ", test.cost)
			mustBest(t, what+", up Inf", x, n, width, api.Inf, found(best, test.end, bestAsSaid(x, n, width, api.Inf).steps))
			mustBest(t, what+", at what it costs", x, n, width, test.end, none(bestAsSaid(x, n, width, test.end).steps))
			mustBest(t, what+", at one more", x, n, width, test.end+1, found(best, test.end, bestAsSaid(x, n, width, test.end+1).steps))
		}
		// Of what costs Inf in the end none costs less than another one.
		for _, cost := range []int{api.Inf - 42, api.Inf - 41, api.Inf - 21, api.Inf - 11, api.Inf - 10, api.Inf - 1, api.Inf, api.Inf + 1, math.MaxInt - 1, math.MaxInt} {
			n := costing(root, cost)
			what := fmt.Sprint("width ", width, ", cost ", cost)
			for _, up := range []int{math.MinInt, 0, api.Inf - 1, api.Inf} {
				mustBest(t, fmt.Sprint(what, ", up ", up), x, n, width, up, none(bestAsSaid(x, n, width, up).steps))
			}
			for _, up := range []int{api.Inf + 1, math.MaxInt} {
				a := bestAsSaid(x, n, width, up)
				mustBest(t, fmt.Sprint(what, ", up ", up), x, n, width, up, a)
				if !a.is || a.best.Cost != api.Inf || len(a.best.Path) != 4 {
					t.Errorf("%s, up %d: as said it is %+v", what, up, a)
				}
			}
		}
		mustBest(t, "at cost Inf it goes no further", x, costing(root, api.Inf), width, api.Inf, none(1))
	}
}

// P16.1: moves come behind the path that n has, whatever it is.
func TestPaths(t *testing.T) {
	x := example()
	s := state.Root(x)
	end := followed(t, x, 1, 2)
	for _, path := range [][]int{nil, {}, {9}, {0, 0}, {1, 2}, {math.MinInt, math.MaxInt}, {-1, 0, 1, 2, 3, 4, 5, 6, 7}} {
		want := node(end.S, 12, slices.Concat(path, []int{1, 2})...)
		mustBest(t, fmt.Sprint("path ", path), x, node(s, 0, path...), 1, api.Inf, found(want, 12, 3))
		mustBest(t, fmt.Sprint("it ends, path ", path), x, node(end.S, 3, path...), 1, api.Inf, found(node(end.S, 7, path...), 7, 1))
	}
}

// P16.1: without pairs only Root can be ended, at no cost, and nothing goes on.
func TestWithoutPairs(t *testing.T) {
	x := noPairs()
	root := state.Root(x)
	for _, cost := range edges() {
		for _, up := range edges() {
			end, want := num.Sum(cost), none(1)
			if end < up {
				want = found(node(root, 0, 7, 8), end, 1)
			}
			for _, width := range []int{math.MinInt, 0, 1, math.MaxInt} {
				mustBest(t, fmt.Sprint("Root, cost ", cost, ", up ", up), x, node(root, cost, 7, 8), width, up, want)
			}
		}
	}
	for name, change := range parts() {
		for _, by := range []int{1, -1} {
			n := node(root, 0)
			change(&n.S, by)
			mustBest(t, name+" is another one", x, n, 9, api.Inf, none(1))
		}
	}
}

// P16.1, P1: nothing goes on, or is ended, where an instance may not be: one step, and none.
func TestWhatMayNotBe(t *testing.T) {
	x := example()
	l := []api.Node{followed(t, x), followed(t, x, 1), followed(t, x, 1, 2), {}, node(state.Root(noPairs()), 0)}
	for _, wrong := range wrongOnes() {
		if inst.May(wrong) {
			t.Fatalf("it may be: %+v", wrong)
		}
		for _, n := range l {
			for _, up := range []int{math.MinInt, 0, api.Inf, math.MaxInt} {
				for _, width := range []int{math.MinInt, 0, 1, math.MaxInt} {
					mustBest(t, "it may not be", wrong, n, width, up, none(1))
				}
			}
		}
	}
}

// P16.1, P16.2, P1: states with any numbers and sets.
func TestAnyStates(t *testing.T) {
	x := line()
	for _, path := range [][]int{nil, {1, 3}, {1, 3, 0}, {1, 3, 2, 4}} {
		whole := followed(t, x, path...)
		for _, m := range edges() {
			for name, change := range parts() {
				n := but(whole, func(n *api.Node) { change(&n.S, m); n.Cost = m })
				for _, up := range []int{0, 43, api.Inf, math.MaxInt} {
					for _, width := range []int{1, 3, math.MaxInt} {
						mustBest(t, fmt.Sprint(name, " is another one, by ", m), x, n, width, up, bestAsSaid(x, n, width, up))
					}
				}
				least := leastFrom(x, n)
				mustBeLeast(t, x, n, math.MaxInt, api.Inf, least)
				mustBeLeast(t, x, n, math.MaxInt, 43, least)
			}
		}
	}
}

// someNode is a node of an instance, as it comes from Root, or changed so that less must, and more may have been seen.
func someNode(s *lcg, x api.Instance) api.Node {
	n := node(state.Root(x), s.below(9)-2)
	for range s.below(2*len(x.Stops) + 1) {
		if b := behind(x, n); len(b) > 0 {
			n = b[s.below(len(b))]
		}
	}
	if s.below(3) == 0 {
		n.S.Must &^= of(s.below(9))
		n.S.May |= of(s.below(9), s.below(9), s.below(9))
		if s.below(2) == 0 {
			n.S.May |= of(1, 2, 3, 4, 5, 6, 7, 8) & (1<<len(x.Stops) - 1)
			n.S.On = 0
		}
	}
	if s.below(20) == 0 {
		n.Cost = edges()[s.below(len(edges()))]
	}
	return n
}

// P16.1: many nodes, held against the chapter's words.
func TestManyNodes(t *testing.T) {
	s := lcg(1)
	all, foundAll, cut, foundCut, later := 0, 0, 0, 0, 0
	for turn := range 2000 {
		x := scattered(&s, turn%4, 1+s.below(20), 50+s.below(200))
		n := someNode(&s, x)
		if turn%3 == 0 {
			n = node(state.Root(x), s.below(5))
		}
		for _, up := range []int{s.below(100), s.below(60), api.Inf, edges()[s.below(len(edges()))]} {
			widest := slices.Max(widths(x, n, math.MaxInt, up))
			for _, width := range []int{1 + s.below(widest), widest - 1, widest, 1 + s.below(4), edges()[s.below(len(edges()))]} {
				want := bestAsSaid(x, n, width, up)
				mustBest(t, "many", x, n, width, up, want)
				switch wide := width >= widest; {
				case wide && want.is:
					foundAll++
				case wide:
					all++
				case want.is:
					foundCut++
					if len(want.best.Path) > len(n.Path) {
						later++
					}
				default:
					cut++
				}
			}
		}
	}
	if all < 3000 || foundAll < 3000 || cut < 1000 || foundCut < 1000 || later < 500 {
		t.Errorf("too few of a kind: with all and none %d, with all and found %d, with few and none %d, with few and found %d, not on the first level %d", all, foundAll, cut, foundCut, later)
	}
}

// P16.1: some nodes of more pairs, with few nodes to a level.
func TestMorePairs(t *testing.T) {
	s := lcg(7)
	is, not := 0, 0
	for turn := range 300 {
		x := scattered(&s, 4+turn%4, 1+s.below(40), 100+s.below(300))
		n := someNode(&s, x)
		if turn%2 == 0 {
			n = node(state.Root(x), 0)
		}
		for _, up := range []int{100 + s.below(200), api.Inf} {
			for _, width := range []int{1, 2, 1 + s.below(25)} {
				want := bestAsSaid(x, n, width, up)
				mustBest(t, "more pairs", x, n, width, up, want)
				if want.is {
					is++
				} else {
					not++
				}
			}
		}
	}
	if is < 200 || not < 200 {
		t.Errorf("too few of a kind: %d, %d", is, not)
	}
}

// leastFrom is the least that it costs to go on from a node and to end, by all ways one by one; Inf: it can't be, or costs as much.
func leastFrom(x api.Instance, n api.Node) int {
	least := api.Inf
	if far, is := state.End(x, n.S); is {
		least = num.Sum(n.Cost, far)
	}
	for _, b := range behind(x, n) {
		least = min(least, leastFrom(x, b))
	}
	return least
}

// mustBeAWay asks that what is found from n goes on from n by moves, and can be ended for what is told.
func mustBeAWay(t *testing.T, x api.Instance, n, best api.Node) {
	t.Helper()
	if !slices.Equal(best.Path[:min(len(n.Path), len(best.Path))], n.Path) {
		t.Fatalf("%+v does not go on from %+v", best, n)
	}
	s, cost := n.S, n.Cost
	for _, j := range best.Path[len(n.Path):] {
		there, far, is := state.Move(x, s, j)
		if !is {
			t.Fatalf("%+v is found, but from %+v it can't go on by %d; of %+v", best, n, j, x)
		}
		s, cost = there, num.Sum(cost, far)
	}
	if far, is := state.End(x, s); !is || s != best.S || num.Sum(cost, far) != best.Cost {
		t.Errorf("%+v is found, but it is %+v then, for %d, and ends, %t, for %d more; of %+v", best, s, cost, is, far, x)
	}
}

// mustBeLeast asks, at a width that no level reaches, that no way costs less than what is found, nor, if nothing is, less than up; and that exact tells the same.
func mustBeLeast(t *testing.T, x api.Instance, n api.Node, width, up, least int) (is bool) {
	t.Helper()
	best, is, _ := narrow.Best(x, n, width, up)
	as, known, _, _ := exact.Best(x, n, up, math.MaxInt)
	switch {
	case is != (least < up) || is != known || best.Cost != as.Cost:
		t.Errorf("%+v, %t; exact: %+v, %t; but it can be done for %d, width %d, up %d; of %+v, %+v", best, is, as, known, least, width, up, n, x)
	case is && best.Cost != least:
		t.Errorf("%+v is found, but it can be done for %d; of %+v, %+v", best, least, n, x)
	case is:
		mustBeAWay(t, x, n, best)
	case !alike(best, api.Node{}):
		t.Errorf("there is none, but it is %+v", best)
	}
	return is
}

// P16.2: with few pairs, and a width that no level reaches, against all ways one by one and against exact, with and without a bound, from Root and from nodes behind some moves.
func TestNoWayCostsLess(t *testing.T) {
	s := lcg(2)
	is, not := 0, 0
	for turn := range 1500 {
		x := scattered(&s, turn%4, 1+s.below(25), 20+s.below(150))
		l := []api.Node{{S: state.Root(x)}}
		for range 3 {
			l = append(l, someNode(&s, x))
		}
		for _, n := range l {
			least := leastFrom(x, n)
			for _, up := range []int{api.Inf, least - 1, least, min(least+1, api.Inf), s.below(100), 0} {
				width := math.MaxInt
				if turn%2 == 0 {
					width = slices.Max(widths(x, n, math.MaxInt, up)) + s.below(2)
				}
				if mustBeLeast(t, x, n, width, up, least) {
					is++
				} else {
					not++
				}
			}
		}
	}
	if is < 2000 || not < 5000 {
		t.Errorf("too few of a kind: %d, %d", is, not)
	}
}

// P16.2: whatever the width, what is found is a way that can be ended, costs that, and less than up, and no less than the least; a greater width may tell less.
func TestWhatIsFoundIsAWay(t *testing.T) {
	s := lcg(3)
	is, not, dearer, missed := 0, 0, 0, 0
	for turn := range 2000 {
		x := scattered(&s, 1+turn%3, 1+s.below(25), 50+s.below(150))
		n := node(state.Root(x), 0)
		if turn%2 == 0 {
			n = someNode(&s, x)
		}
		least := leastFrom(x, n)
		up := 10 + s.below(200)
		for _, width := range []int{-s.below(3), 1, 2, 1 + s.below(12)} {
			best, found, _ := narrow.Best(x, n, width, up)
			switch {
			case !found && least < up:
				missed++
			case !found:
				not++
			case best.Cost > least:
				dearer++
			default:
				is++
			}
			if !found {
				continue
			}
			mustBeAWay(t, x, n, best)
			if best.Cost >= up || best.Cost < least {
				t.Errorf("%+v, width %d, up %d, at least %d; of %+v, %+v", best, width, up, least, n, x)
			}
		}
	}
	if is < 1000 || not < 1000 || dearer < 200 || missed < 100 {
		t.Errorf("too few of a kind: the least %d, none %d, dearer %d, missed %d", is, not, dearer, missed)
	}
}

// P16.2: no level has more nodes than the width, or 1: there are at most as many levels as moves, and one.
func TestNoLevelIsWider(t *testing.T) {
	s := lcg(8)
	full := 0
	for turn := range 400 {
		x := scattered(&s, turn%9, 1+s.below(40), 100+s.below(900))
		root := node(state.Root(x), 0)
		moves := 2*x.Pairs + max(0, min(x.Cars, x.Pairs)-1)
		for _, width := range []int{math.MinInt, -1, 0, 1, 2, 5, 10} {
			_, _, steps := narrow.Best(x, root, width, api.Inf)
			if steps < 1 || steps > 1+moves*max(1, width) {
				t.Errorf("width %d: %d steps, of at most %d moves; of %+v", width, steps, moves, x)
			}
			if width < 2 && steps == 1+moves {
				full++
			}
			if _, _, one := narrow.Best(x, root, 1, api.Inf); width < 2 && steps != one {
				t.Errorf("width %d: %d steps, not %d as with 1; of %+v", width, steps, one, x)
			}
		}
	}
	if full < 20 {
		t.Errorf("too few with as many levels as there may be: %d", full)
	}
}

// P16.2, P4: from Root what is found is a plan that may be, and costs that.
func TestItIsAPlan(t *testing.T) {
	s := lcg(4)
	count := 0
	for turn := range 600 {
		x := scattered(&s, turn%9, 1+s.below(30), 100+s.below(400))
		best, is, _ := narrow.Best(x, node(state.Root(x), 0), 1+s.below(30), api.Inf)
		if !is {
			continue
		}
		count++
		p, err := tour.Split(best.Path)
		if cost, wrong := plan.Cost(x, p); err != api.OK || wrong != api.OK || cost != best.Cost {
			t.Errorf("%d: Split: %d; it costs %d, %d; found for %d; of %+v", best.Path, err, cost, wrong, best.Cost, x)
		}
	}
	if count < 150 {
		t.Errorf("too few of a kind: %d", count)
	}
}

// P1: with as many pairs as there may be it ends: by the width, by a bound, or by short times.
func TestManyPairs(t *testing.T) {
	s := lcg(5)
	x := scattered(&s, api.MaxPairs, 100, 1000)
	x.Cars, x.Room = api.MaxCars, api.MaxAmount
	for i := range x.Stops {
		x.Stops[i].Ready, x.Stops[i].Due = 0, api.MaxTime
	}
	root := node(state.Root(x), 0)
	for _, width := range []int{1, 2, 30} {
		if best, is, steps := narrow.Best(x, root, width, api.Inf); steps < 30*width || steps > 1+39*width {
			t.Errorf("width %d: %+v, %t, %d", width, best, is, steps)
		}
		// One car with time and room for all can always go on, up to the last stop.
		one := with(x, func(x *api.Instance) { x.Cars = 1 })
		best, is, steps := narrow.Best(one, root, width, api.Inf)
		if !is || steps < 1+31*width || steps > 1+32*width {
			t.Errorf("width %d: %+v, %t, %d", width, best, is, steps)
		}
		mustBeAWay(t, one, root, best)
	}
	if best, is, steps := narrow.Best(x, root, math.MaxInt, bound.At(x, root.S)); is || steps < 1 {
		t.Errorf("%+v, %t, %d", best, is, steps)
	}
	// 33 places around a block of 90 by 80, each 10 from the next one, all but the last one, and that 20 from the yard: to go around costs 340, and each other way has to turn somewhere.
	for i := range x.Stops {
		x.Stops[i].X, x.Stops[i].Y = around(10 * i)
	}
	root = node(state.Root(x), 0)
	for _, width := range []int{1, api.MaxWidth, math.MaxInt} {
		best, is, steps := narrow.Best(x, root, width, 341)
		if !is || steps < 33 || best.Cost != 340 || len(best.Path) != 32 {
			t.Errorf("width %d: %+v, %t, %d", width, best, is, steps)
		}
		mustBeAWay(t, x, root, best)
		if best, is, steps := narrow.Best(x, root, width, 340); is {
			t.Errorf("width %d: %+v, %t, %d", width, best, is, steps)
		}
	}
}

// around is the place so far around a block of 90 by 80.
func around(far int) (x, y int) {
	switch {
	case far <= 90:
		return far, 0
	case far <= 170:
		return 90, far - 90
	case far <= 260:
		return 260 - far, 80
	default:
		return 0, 340 - far
	}
}

// R3: what is answered stays as it is when all that was handed in is changed.
func TestAnswersStay(t *testing.T) {
	x := line()
	for _, n := range []api.Node{followed(t, x), followed(t, x, 1, 3), followed(t, x, 1, 3, 2, 4), thrown(t)} {
		for _, width := range []int{1, 9} {
			n, given := but(n, func(n *api.Node) {}), with(x, func(x *api.Instance) {})
			best, is, _ := narrow.Best(given, n, width, api.Inf)
			was := guarded(best)
			if !is || len(best.Path) == 0 {
				t.Fatalf("%+v, %t", best, is)
			}
			room := n.Path[:cap(n.Path)]
			for i := range room {
				room[i] = -9
			}
			for k := range given.Stops {
				given.Stops[k] = api.Stop{}
			}
			if !alike(best, was) {
				t.Errorf("it is now %+v, it was %+v", best, was)
			}
		}
	}
}

// R3: nothing is written behind a path that has room there; two answers share nothing.
func TestPathsWithRoom(t *testing.T) {
	x := line()
	row := []int{1, 3, 5, 6, 7, 8, 9}
	n := node(followed(t, x, 1, 3).S, 11)
	n.Path = row[:2]
	first, _, _ := narrow.Best(x, n, 9, api.Inf)
	second, _, _ := narrow.Best(x, n, 9, api.Inf)
	if !slices.Equal(row, []int{1, 3, 5, 6, 7, 8, 9}) {
		t.Errorf("the path's list is now %d", row)
	}
	for i := range first.Path {
		first.Path[i] = -9
	}
	if !slices.Equal(second.Path, []int{1, 3, 2, 4}) || second.Cost != 42 {
		t.Errorf("%+v", second)
	}
	end := api.Node{S: followed(t, x, 1, 3, 2, 4).S, Cost: 21, Path: row[:4]}
	best, is, _ := narrow.Best(x, end, 1, api.Inf)
	if !is || !slices.Equal(best.Path, []int{1, 3, 5, 6}) || best.Cost != 42 {
		t.Errorf("%+v, %t", best, is)
	}
	for i := range best.Path[:cap(best.Path)] {
		best.Path[:cap(best.Path)][i] = -9
	}
	if !slices.Equal(row, []int{1, 3, 5, 6, 7, 8, 9}) {
		t.Errorf("the path's list is now %d", row)
	}
}

// R5: nothing hangs on what was asked before.
func TestAskedAgain(t *testing.T) {
	s := lcg(6)
	type asked struct {
		x         api.Instance
		n         api.Node
		width, up int
	}
	var all []asked
	for turn := range 40 {
		x := scattered(&s, 1+turn%3, 10, 200)
		all = append(all, asked{x, someNode(&s, x), 1 + s.below(30), 10 + s.below(100)})
	}
	for range 3 {
		for _, a := range all {
			mustBest(t, "again", a.x, a.n, a.width, a.up, bestAsSaid(a.x, a.n, a.width, a.up))
		}
	}
	// Of one instance other stops are asked for, at the same place in memory.
	x := line()
	root := node(state.Root(x), 0)
	mustBest(t, "ahead", x, root, 9, api.Inf, found(followed(t, x, 1, 3, 2, 4), 42, 23))
	for i := range x.Stops {
		x.Stops[i].X *= 2
	}
	a := bestAsSaid(x, root, 9, api.Inf)
	mustBest(t, "twice as far", x, root, 9, api.Inf, found(followed(t, x, a.best.Path...), 84, a.steps))
}

// The tests' own parts are made as they should be.
func TestWhatTheTestsAreMadeOf(t *testing.T) {
	for _, x := range []api.Instance{example(), line(), waiting(), sides(), dearSides(), threeSides(), star(1), star(2), star(3), noPairs()} {
		if !inst.May(x) {
			t.Errorf("it may not be: %+v", x)
		}
	}
	if of() != 0 || of(1, 3) != 10 || len(parts()) != 8 {
		t.Error("of, or parts")
	}
	if a := bestAsSaid(example(), node(state.Root(example()), 0), 1, api.Inf); !a.is || a.steps != 3 || a.best.Cost != 12 || !slices.Equal(a.best.Path, []int{1, 2}) {
		t.Errorf("bestAsSaid: %+v", a)
	}
	l := []api.Node{{Cost: 5, Path: []int{1}}, {Cost: 3, Path: []int{2}}, {Cost: 5, Path: []int{3}}, {Cost: 3, Path: []int{4}}}
	if l := sortedAsSaid(noPairs(), l); l[0].Path[0] != 2 || l[1].Path[0] != 4 || l[2].Path[0] != 1 || l[3].Path[0] != 3 {
		t.Errorf("sortedAsSaid: %+v", l)
	}
	for width, few := range map[int]int{math.MinInt: 1, -1: 1, 0: 1, 1: 1, 2: 2, 3: 3, 4: 4, 5: 4, math.MaxInt: 4} {
		if got := fewAsSaid(l, width); len(got) != few || !alike(got[few-1], l[few-1]) {
			t.Errorf("fewAsSaid, width %d: %+v", width, got)
		}
	}
	if fewAsSaid(nil, 1) != nil {
		t.Error("fewAsSaid of none")
	}
	if least := leastFrom(line(), node(state.Root(line()), 0)); least != 42 {
		t.Errorf("leastFrom: %d", least)
	}
	if least := leastFrom(line(), api.Node{}); least != api.Inf {
		t.Errorf("leastFrom: %d", least)
	}
}
