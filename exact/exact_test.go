package exact_test

import (
	"fmt"
	"math"
	"slices"
	"testing"

	"haulier/api"
	"haulier/bound"
	"haulier/exact"
	"haulier/inst"
	"haulier/num"
	"haulier/plan"
	"haulier/relax"
	"haulier/state"
	"haulier/tour"
)

// lcg is a row of numbers that are spread out, the same in each run.
type lcg uint64

func (s *lcg) below(n int) int {
	*s = *s*6364136223846793005 + 1442695040888963407
	// The low bits of such a row repeat soon: only the high ones are taken.
	return int(uint64(*s) >> 33 % uint64(n))
}

// of is a set, made by hand.
func of(l ...int) uint64 {
	var s uint64
	for _, i := range l {
		s |= 1 << i
	}
	return s
}

// edges are numbers at which something could change, the least and the greatest that there are among them.
func edges() []int {
	return []int{
		math.MinInt, math.MinInt + 1, -1 << 62, -api.Inf, -1<<32 - 1, -1 << 32, -1 << 31, -256, -2, -1,
		0, 1, 2, 255, 256, 1 << 30, 1<<30 + 1, 1<<31 - 1, 1 << 32, 1<<32 + 1, api.Inf - 1, api.Inf, api.Inf + 1, 1 << 62, math.MaxInt - 1, math.MaxInt,
	}
}

// example is chapter 5's: one pair.
func example() api.Instance {
	return api.Instance{Pairs: 1, Cars: 1, Room: 5, Stops: []api.Stop{
		{X: 0, Y: 0, Demand: 0, Ready: 0, Due: 100, Service: 0},
		{X: 3, Y: 0, Demand: 2, Ready: 0, Due: 50, Service: 1},
		{X: 0, Y: 4, Demand: -2, Ready: 0, Due: 90, Service: 1},
	}}
}

// line are two pairs on a line, with room and time for all, and two cars. The best plans, 1 2 4 3 and 1 3 2 4, cost 42.
func line() api.Instance {
	return api.Instance{Pairs: 2, Cars: 2, Room: 5, Stops: []api.Stop{
		{X: 0, Due: 1000},
		{X: 10, Demand: 1, Due: 1000},
		{X: 20, Demand: 1, Due: 1000},
		{X: 11, Demand: -1, Due: 1000},
		{X: 21, Demand: -1, Due: 1000},
	}}
}

// waiting are three pairs on a line, 10 from stop to stop; where they are brought all wait up to 500, so that many ways lead to one state.
func waiting() api.Instance {
	x := api.Instance{Pairs: 3, Cars: 3, Room: 9}
	for i := range 7 {
		s := api.Stop{X: 10 * i, Due: 1000}
		switch {
		case i == 0:
		case i <= 3:
			s.Demand = 1
		default:
			s.Demand, s.Ready = -1, 500
		}
		x.Stops = append(x.Stops, s)
	}
	return x
}

// sides are two pairs, one on each side of the yard, with room and time for all: a car of its own for each costs 44, and so does one for both.
func sides() api.Instance {
	return api.Instance{Pairs: 2, Cars: 2, Room: 5, Stops: []api.Stop{
		{X: 100, Due: 1000},
		{X: 110, Demand: 1, Due: 1000},
		{X: 90, Demand: 1, Due: 1000},
		{X: 111, Demand: -1, Due: 1000},
		{X: 89, Demand: -1, Due: 1000},
	}}
}

// dearSides are sides at such times that one car for both has to go there and back, and costs 64.
func dearSides() api.Instance {
	x := sides()
	x.Stops[1].Due, x.Stops[2].Due, x.Stops[3].Ready = 10, 50, 100
	return x
}

// threeSides are dearSides, and a third pair on a side of its own: one car costs 74, two 60, three 66.
func threeSides() api.Instance {
	return api.Instance{Pairs: 3, Cars: 3, Room: 5, Stops: []api.Stop{
		{X: 100, Y: 100, Due: 1000},
		{X: 110, Y: 100, Demand: 1, Due: 10},
		{X: 90, Y: 100, Demand: 1, Due: 50},
		{X: 100, Y: 110, Demand: 1, Due: 1000},
		{X: 111, Y: 100, Demand: -1, Ready: 100, Due: 1000},
		{X: 89, Y: 100, Demand: -1, Due: 1000},
		{X: 100, Y: 111, Demand: -1, Due: 1000},
	}}
}

func noPairs() api.Instance {
	return api.Instance{Cars: 2, Room: 1, Stops: []api.Stop{{X: 4, Y: 5, Ready: 6, Due: 7}}}
}

// scattered is an instance of so many pairs, on so many places a side, whose times are as short.
func scattered(s *lcg, pairs, side, due int) api.Instance {
	x := api.Instance{Pairs: pairs, Cars: 1 + s.below(3), Room: 5 + s.below(10)}
	for i := range 2*pairs + 1 {
		p := api.Stop{X: s.below(side), Y: s.below(side), Ready: s.below(1 + due/2), Service: s.below(3)}
		p.Due = p.Ready + s.below(1+due)
		switch {
		case i == 0:
			p.Service, p.Ready = 0, p.Ready/4
			p.Due += due
		case i <= pairs:
			p.Demand = 1 + s.below(5)
		default:
			p.Due += due / 2
			p.Demand = -x.Stops[i-pairs].Demand
		}
		x.Stops = append(x.Stops, p)
	}
	return x
}

// with is x after a change.
func with(x api.Instance, change func(x *api.Instance)) api.Instance {
	x.Stops = slices.Clone(x.Stops)
	change(&x)
	return x
}

// wrongOnes are instances that may not be.
func wrongOnes() []api.Instance {
	wrong := []api.Instance{
		{},
		{Cars: 1, Room: 1},
		{Pairs: 1, Cars: 1, Room: 5, Stops: append(example().Stops, api.Stop{})},
		{Pairs: 1, Cars: 1, Room: 5, Stops: example().Stops[:2]},
		{Pairs: 17, Cars: 1, Room: 17, Stops: make([]api.Stop, 35)},
		{Pairs: 1 << 10, Cars: 1, Room: 1, Stops: make([]api.Stop, 1<<11+1)},
		with(noPairs(), func(x *api.Instance) { x.Cars = 0 }),
		with(noPairs(), func(x *api.Instance) { x.Stops[0].Due = 5 }),
	}
	for i := range 3 + 6*3 {
		for _, n := range []int{math.MinInt, -1001, -1, 1<<20 + 1, 1<<32 + 1, 1<<62 + 1, math.MaxInt} {
			x := example()
			l := []*int{&x.Pairs, &x.Cars, &x.Room}
			for k := range x.Stops {
				s := &x.Stops[k]
				l = append(l, &s.X, &s.Y, &s.Demand, &s.Ready, &s.Due, &s.Service)
			}
			*l[i] = n
			wrong = append(wrong, x)
		}
	}
	return wrong
}

// node is one by hand.
func node(s api.State, cost int, path ...int) api.Node { return api.Node{S: s, Cost: cost, Path: path} }

// but is n after a change; its path is its own.
func but(n api.Node, change func(n *api.Node)) api.Node {
	n.Path = slices.Clone(n.Path)
	change(&n)
	return n
}

// costing is n, at another cost.
func costing(n api.Node, cost int) api.Node {
	return but(n, func(n *api.Node) { n.Cost = cost })
}

// followed is the node behind moves from Root.
func followed(t *testing.T, x api.Instance, path ...int) api.Node {
	t.Helper()
	s, cost, err := state.Follow(x, path)
	if err != api.OK {
		t.Fatalf("Follow %d: %d", path, err)
	}
	return node(s, cost, path...)
}

// thrown is a node of line in which two were thrown together: all stops may have been seen there, but stop 3 need not. It can be ended for 71, and go on.
func thrown(t *testing.T) api.Node {
	t.Helper()
	x := line()
	joined, is := relax.Join(followed(t, x, 1, 2, 4).S, followed(t, x, 1, 3, 2, 4).S)
	if !is || joined.May != of(1, 2, 3, 4) || joined.Must != of(1, 2, 4) {
		t.Fatalf("Join: %+v, %t", joined, is)
	}
	return node(joined, 50, 9)
}

// loose is a node of waiting at which all may have been seen, but only stop 1 must: it can be ended for 10, and go on to all stops, and to the yard.
func loose() api.Node {
	return node(api.State{At: 1, Car: 1, First: 1, Must: of(1), May: of(1, 2, 3, 4, 5, 6)}, 0, 7)
}

// parts change each number and each set of a state, and nothing else.
func parts() map[string]func(s *api.State, by int) {
	return map[string]func(s *api.State, by int){
		"At":    func(s *api.State, by int) { s.At += by },
		"Car":   func(s *api.State, by int) { s.Car += by },
		"Time":  func(s *api.State, by int) { s.Time += by },
		"Load":  func(s *api.State, by int) { s.Load += by },
		"First": func(s *api.State, by int) { s.First += by },
		"Must":  func(s *api.State, by int) { s.Must += uint64(by) },
		"May":   func(s *api.State, by int) { s.May += uint64(by) },
		"On":    func(s *api.State, by int) { s.On += uint64(by) },
	}
}

// answer is what Best answers.
type answer struct {
	best  api.Node
	is    bool
	all   bool
	steps int
}

// onceAsSaid is chapter 14's Once by its words.
func onceAsSaid(l []api.Node) []api.Node {
	var once []api.Node
	for k, n := range l {
		sameState := func(m api.Node) bool { return m.S == n.S }
		if slices.ContainsFunc(l[:k], sameState) {
			continue
		}
		for _, m := range l[k:] {
			if sameState(m) && m.Cost < n.Cost {
				n = m
			}
		}
		once = append(once, n)
	}
	return once
}

// behind are the nodes behind each move that can be made, node by node, rising, whatever they cost.
func behind(x api.Instance, l ...api.Node) []api.Node {
	var next []api.Node
	for _, n := range l {
		for j := 0; j <= 2*len(x.Stops); j++ {
			if s, far, is := state.Move(x, n.S, j); is {
				next = append(next, node(s, num.Sum(n.Cost, far), append(slices.Clone(n.Path), j)...))
			}
		}
	}
	return next
}

// nextAsSaid are the nodes that chapter 14's Expand answers, by its words.
func nextAsSaid(x api.Instance, l []api.Node, up int) []api.Node {
	var next []api.Node
	for _, n := range behind(x, l...) {
		if !(bound.Of(x, n) >= up) {
			next = append(next, n)
		}
	}
	return onceAsSaid(next)
}

// endedAsSaid is the best node that can be ended of chapter 14's Expand, by its words.
func endedAsSaid(x api.Instance, l []api.Node) (api.Node, bool) {
	var best api.Node
	found := false
	for _, n := range l {
		far, is := state.End(x, n.S)
		if !is {
			continue
		}
		n.Cost = num.Sum(n.Cost, far)
		if !found || n.Cost < best.Cost {
			best, found = n, true
		}
	}
	return best, found
}

// frontAsSaid is chapter 13's Front by its words: each node is held against each other one.
func frontAsSaid(l []api.Node) []api.Node {
	than := func(a, b api.Node) bool {
		return a.S.Must == b.S.Must && a.S.May == b.S.May && a.S.On == b.S.On && relax.Covers(a.S, b.S) && a.Cost <= b.Cost
	}
	var front []api.Node
	for k, b := range l {
		useless := false
		for i, a := range l {
			useless = useless || i != k && than(a, b) && (i < k || !than(b, a))
		}
		if !useless {
			front = append(front, b)
		}
	}
	return front
}

// bestAsSaid is P15.1 by the chapter's words, one level, and then the ones behind it.
func bestAsSaid(x api.Instance, n api.Node, up, most int) answer {
	return goOnAsSaid(x, []api.Node{n}, up, most, answer{})
}

func goOnAsSaid(x api.Instance, l []api.Node, up, most int, until answer) answer {
	switch {
	case len(l) == 0:
		until.all = true
		return until
	case len(l) > most:
		until.all = false
		return until
	}
	next := nextAsSaid(x, l, up)
	if best, is := endedAsSaid(x, l); is && best.Cost < up {
		until.best, until.is = best, true
		up = best.Cost
	}
	until.steps += len(l)
	return goOnAsSaid(x, frontAsSaid(next), up, most, until)
}

// widths are how many nodes each level has.
func widths(x api.Instance, n api.Node, up int) []int {
	var wide []int
	for l := []api.Node{n}; len(l) > 0; {
		wide = append(wide, len(l))
		next := frontAsSaid(nextAsSaid(x, l, up))
		if best, is := endedAsSaid(x, l); is && best.Cost < up {
			up = best.Cost
		}
		l = next
	}
	return wide
}

// alike tells whether two nodes have all the same, their paths, too.
func alike(a, b api.Node) bool {
	return a.S == b.S && a.Cost == b.Cost && slices.Equal(a.Path, b.Path)
}

// guarded is n with a path of its own, and room behind it, in which nothing may be written.
func guarded(n api.Node) api.Node {
	n.Path = slices.Concat(n.Path, []int{-71, -72, -73})[:len(n.Path)]
	return n
}

// mustStay asks that a node is as it was, the room behind its path, too.
func mustStay(t *testing.T, what string, n, was api.Node) {
	t.Helper()
	room := len(was.Path) + 3
	if !alike(n, was) || !slices.Equal(n.Path[:room], was.Path[:room]) {
		t.Fatalf("%s: the node is now %+v, it was %+v", what, n, was)
	}
}

// mustBest asks for just this answer of Best, and that the node and the stops stay as they were.
func mustBest(t *testing.T, what string, x api.Instance, n api.Node, up, most int, want answer) {
	t.Helper()
	stops := slices.Clone(x.Stops)
	given, was := guarded(n), guarded(n)
	best, is, all, steps := exact.Best(x, given, up, most)
	if !alike(best, want.best) || is != want.is || all != want.all || steps != want.steps {
		t.Errorf("%s: Best: %+v, %t, %t, %d;\nwant %+v, %t, %t, %d;\nof %+v, up %d, most %d, %+v", what, best, is, all, steps, want.best, want.is, want.all, want.steps, n, up, most, x)
	}
	mustStay(t, what, given, was)
	room := best.Path[:cap(best.Path)]
	for i := range room {
		room[i] = -98765
	}
	mustStay(t, what+", the answer is changed", given, was)
	if !slices.Equal(x.Stops, stops) {
		t.Errorf("%s: the stops are now %+v, they were %+v", what, x.Stops, stops)
	}
}

// found is the answer that all was looked at, and this is the best one.
func found(best api.Node, cost, steps int) answer {
	return answer{costing(best, cost), true, true, steps}
}

// none is the answer that all was looked at, and there is none.
func none(steps int) answer { return answer{all: true, steps: steps} }

// cutOff is the answer that a level had too many nodes, and there was none until then.
func cutOff(steps int) answer { return answer{steps: steps} }

// P15.1: the chapter's example, at all bounds, and with few nodes to a level.
func TestExample(t *testing.T) {
	x := example()
	root := node(state.Root(x), 0)
	both := node(api.State{At: 2, Car: 1, Time: 10, First: 1, Must: of(1, 2), May: of(1, 2)}, 8, 1, 2)
	mustBest(t, "Root", x, root, api.Inf, 9, found(both, 12, 3))
	mustBest(t, "one node to a level is enough", x, root, api.Inf, 1, found(both, 12, 3))
	// It costs 10 at least behind the first move, and 11 behind the second one.
	for _, test := range []struct {
		up   int
		want answer
	}{
		{math.MinInt, none(1)}, {-api.Inf, none(1)}, {-1, none(1)}, {0, none(1)}, {1, none(1)}, {9, none(1)}, {10, none(1)}, {11, none(2)}, {12, none(3)},
		{13, found(both, 12, 3)}, {14, found(both, 12, 3)}, {api.Inf - 1, found(both, 12, 3)}, {api.Inf, found(both, 12, 3)}, {math.MaxInt, found(both, 12, 3)},
	} {
		mustBest(t, fmt.Sprint("up ", test.up), x, root, test.up, 1, test.want)
	}
	mustBest(t, "behind the first move", x, followed(t, x, 1), api.Inf, 1, found(both, 12, 2))
	mustBest(t, "behind both", x, both, api.Inf, 1, found(both, 12, 1))
	late := with(x, func(x *api.Instance) { x.Stops[0].Due = 13 })
	mustBest(t, "there is no plan: it comes back too late", late, root, api.Inf, 1, none(3))
	late.Stops[0].Due = 14
	mustBest(t, "it comes back just in time", late, root, api.Inf, 1, found(both, 12, 3))
}

// P15.1: a level with more nodes than most is the end, one with just as many is not; steps are only those of the levels ahead.
func TestMost(t *testing.T) {
	x := line()
	root := node(state.Root(x), 0)
	best := followed(t, x, 1, 2, 4, 3)
	if wide := widths(x, root, api.Inf); !slices.Equal(wide, []int{1, 2, 4, 6, 3, 1}) {
		t.Fatalf("so wide are levels: %d", wide)
	}
	for _, test := range []struct {
		most int
		want answer
	}{
		{math.MinInt, cutOff(0)}, {-1 << 32, cutOff(0)}, {-2, cutOff(0)}, {-1, cutOff(0)}, {0, cutOff(0)}, {1, cutOff(1)}, {2, cutOff(3)}, {3, cutOff(3)}, {4, cutOff(7)}, {5, cutOff(7)},
		{6, found(best, 42, 17)}, {7, found(best, 42, 17)}, {17, found(best, 42, 17)}, {1 << 32, found(best, 42, 17)}, {api.Inf, found(best, 42, 17)}, {math.MaxInt, found(best, 42, 17)},
	} {
		mustBest(t, fmt.Sprint("most ", test.most), x, root, api.Inf, test.most, test.want)
	}
	// With a bound levels have fewer nodes.
	if wide := widths(x, root, 43); !slices.Equal(wide, []int{1, 2, 4, 4, 2}) {
		t.Fatalf("so wide are levels: %d", wide)
	}
	mustBest(t, "up 43, the widest level", x, root, 43, 4, found(best, 42, 13))
	mustBest(t, "up 43, one fewer", x, root, 43, 3, cutOff(3))
	// Most is not held against what is left out of a level: of 27, 31 and 33 nodes 18 are left.
	y := waiting()
	root = node(state.Root(y), 0)
	if wide := widths(y, root, api.Inf); !slices.Equal(wide, []int{1, 3, 9, 18, 18, 18, 14, 6}) {
		t.Fatalf("so wide are levels: %d", wide)
	}
	mustBest(t, "waiting, the widest level", y, root, api.Inf, 18, found(followed(t, y, 1, 2, 3, 4, 5, 6), 120, 87))
	mustBest(t, "waiting, one fewer", y, root, api.Inf, 17, cutOff(13))
}

// P15.1: where not all was looked at, what was found until then is answered.
func TestFoundUntilThen(t *testing.T) {
	x, n := line(), thrown(t)
	mustBest(t, "thrown together, the widest level", x, n, api.Inf, 2, found(n, 71, 3))
	mustBest(t, "thrown together, one fewer", x, n, api.Inf, 1, answer{costing(n, 71), true, false, 1})
	mustBest(t, "thrown together, none", x, n, api.Inf, 0, cutOff(0))
	mustBest(t, "thrown together, one fewer, and none is found", x, n, 71, 1, none(2))
	y, m := waiting(), loose()
	if wide := widths(y, m, api.Inf); !slices.Equal(wide, []int{1, 6}) {
		t.Fatalf("so wide are levels: %d", wide)
	}
	mustBest(t, "loose, the widest level", y, m, api.Inf, 6, found(m, 10, 7))
	mustBest(t, "loose, one fewer", y, m, api.Inf, 5, answer{costing(m, 10), true, false, 1})
	// What is on the car has to be brought first: behind that it can be ended, on the second level.
	m = but(m, func(m *api.Node) { m.S.At, m.S.First, m.S.Must, m.S.On = 3, 3, of(3), of(3) })
	end := node(api.State{At: 6, Car: 1, Time: 500, First: 3, Must: of(3, 6), May: of(1, 2, 3, 4, 5, 6)}, 30, 7, 6)
	if wide := widths(y, m, api.Inf); !slices.Equal(wide[:3], []int{1, 5, 21}) {
		t.Fatalf("so wide are levels: %d", wide)
	}
	mustBest(t, "it is found on the second level, and the third one is too wide", y, m, api.Inf, 20, answer{costing(end, 90), true, false, 6})
	mustBest(t, "the second level is too wide", y, m, api.Inf, 4, cutOff(1))
	mustBest(t, "just up to the second level", y, m, api.Inf, 5, answer{costing(end, 90), true, false, 6})
}

// P15.1: the best one costs less than up, or there is none.
func TestUp(t *testing.T) {
	x := line()
	root := node(state.Root(x), 0)
	best := followed(t, x, 1, 2, 4, 3)
	// Behind Root it costs 23 at least, or 33.
	for _, test := range []struct {
		up   int
		want answer
	}{
		{math.MinInt, none(1)}, {-api.Inf, none(1)}, {-1 << 32, none(1)}, {-1, none(1)}, {0, none(1)}, {1, none(1)}, {23, none(1)}, {24, none(3)},
		{41, none(11)}, {42, none(12)}, {43, found(best, 42, 13)},
		{api.Inf - 1, found(best, 42, 17)}, {api.Inf, found(best, 42, 17)}, {api.Inf + 1, found(best, 42, 17)}, {math.MaxInt, found(best, 42, 17)},
	} {
		mustBest(t, fmt.Sprint("up ", test.up), x, root, test.up, 9, test.want)
	}
	// The first level has just n, whatever it costs at least.
	all := followed(t, x, 1, 3, 2, 4)
	for _, up := range edges() {
		want := none(1)
		if up > 42 {
			want = found(all, 42, 1)
		}
		mustBest(t, fmt.Sprint("it can only be ended, up ", up), x, all, up, 1, want)
		mustBest(t, fmt.Sprint("most 0, up ", up), x, root, up, 0, cutOff(0))
	}
	for up := 20; up < 70; up++ {
		mustBest(t, fmt.Sprint("up ", up), x, root, up, 9, bestAsSaid(x, root, up, 9))
	}
}

// P15.1: nodes that can be ended and go on, that can only be ended, that can only go on, and that can do neither.
func TestEachKind(t *testing.T) {
	x := line()
	both := thrown(t)
	mustBest(t, "both", x, both, api.Inf, 9, found(both, 71, 3))
	mustBest(t, "both, at what it costs", x, both, 71, 9, none(2))
	mustBest(t, "both, at one more", x, both, 72, 9, found(both, 71, 2))
	mustBest(t, "both, where the yard is not too dear", x, both, 82, 9, found(both, 71, 3))
	ended, on := followed(t, x, 1, 3, 2, 4), followed(t, x, 1, 3, 2)
	mustBest(t, "only ended", x, ended, api.Inf, 9, found(ended, 42, 1))
	mustBest(t, "only ended, at what it costs", x, ended, 42, 9, none(1))
	mustBest(t, "only ended, at one more", x, ended, 43, 9, found(ended, 42, 1))
	mustBest(t, "only on", x, on, api.Inf, 9, found(ended, 42, 2))
	neither := but(on, func(n *api.Node) { n.S.Time = 1000 })
	for _, up := range edges() {
		mustBest(t, fmt.Sprint("neither, up ", up), x, neither, up, 1, none(1))
		mustBest(t, fmt.Sprint("noughts, up ", up), x, api.Node{}, up, 1, none(1))
	}
	mustBest(t, "neither, most 0", x, neither, api.Inf, 0, cutOff(0))
}

// P15.1: one that is found on an early level is beaten by one that a later level finds for less, and by no other.
func TestLaterLevels(t *testing.T) {
	dear := dearSides()
	root := node(state.Root(dear), 0)
	early, later := followed(t, dear, 1, 2, 4, 3), followed(t, dear, 1, 3, 0, 2, 4)
	mustBest(t, "the early one costs 64", dear, early, api.Inf, 9, found(early, 64, 1))
	mustBest(t, "a later one costs 44", dear, root, api.Inf, 9, found(later, 44, 14))
	mustBest(t, "up 64: the early one is not found", dear, root, 64, 9, found(later, 44, bestAsSaid(dear, root, 64, 9).steps))
	one := with(dear, func(x *api.Instance) { x.Cars = 1 })
	mustBest(t, "there is just one car", one, root, api.Inf, 9, found(early, 64, bestAsSaid(one, root, api.Inf, 9).steps))
	same := sides()
	if wide := widths(same, root, api.Inf); !slices.Equal(wide, []int{1, 2, 4, 7, 4, 1}) {
		t.Fatalf("so wide are levels: %d", wide)
	}
	mustBest(t, "a later one costs the same: the earlier one stays", same, root, api.Inf, 9, found(followed(t, same, 1, 3, 2, 4), 44, 19))
	x := line()
	mustBest(t, "a later one costs more", x, node(state.Root(x), 0), api.Inf, 9, found(followed(t, x, 1, 2, 4, 3), 42, 17))
	mustBest(t, "the later one alone", x, followed(t, x, 1, 3, 0), api.Inf, 9, found(followed(t, x, 1, 3, 0, 2, 4), 64, 3))
	// It is 71 on the first level, and 71 again behind stop 3.
	n := thrown(t)
	mustBest(t, "on the first level, and the same on the second one", x, n, api.Inf, 9, found(n, 71, 3))
}

// P15.1: what is found is the bound from then on: later levels have fewer nodes, or none; but the level just behind it came of the bound as it was.
func TestTheBoundFalls(t *testing.T) {
	x := threeSides()
	root := node(state.Root(x), 0)
	best := followed(t, x, 1, 4, 3, 6, 0, 2, 5)
	if wide := widths(x, root, api.Inf); !slices.Equal(wide, []int{1, 3, 7, 15, 16, 16, 13, 4, 1}) {
		t.Fatalf("so wide are levels: %d", wide)
	}
	mustBest(t, "three levels find one, the second of them the best one", x, root, api.Inf, 99, found(best, 60, 76))
	// On a line it costs 60 to go back from stop 6, whatever lies between; less is left behind each level, as that is known from the first one on.
	y, n := waiting(), but(loose(), func(n *api.Node) { n.S.At, n.S.First, n.S.Must = 6, 3, of(3, 6) })
	mustBest(t, "later levels have fewer nodes", y, n, api.Inf, 99, found(n, 60, 1+5+4+1))
	mustBest(t, "up is one more from the start: the second one has, too", y, n, 61, 99, found(n, 60, 1+4+4+1))
	mustBest(t, "later levels have none", y, loose(), api.Inf, 99, found(loose(), 10, 1+6))
	root = node(state.Root(y), 0)
	mustBest(t, "the last level has none", y, root, api.Inf, 99, found(followed(t, y, 1, 2, 3, 4, 5, 6), 120, 87))
	// Were the bound as at first, or were it at once what each level finds, there would be more nodes, or fewer.
	for _, test := range []struct {
		n             api.Node
		stays, atOnce int
	}{{n, 57, 9}, {loose(), 303, 1}, {root, 88, 81}} {
		if stays, atOnce := stepsIf(y, test.n, false), stepsIf(y, test.n, true); stays != test.stays || atOnce != test.atOnce {
			t.Errorf("it can't be told whether the bound falls: %d, %d", stays, atOnce)
		}
	}
}

// stepsIf are how many steps it took, if the bound stayed Inf, or if what a level finds bounded the one just behind it.
func stepsIf(x api.Instance, n api.Node, atOnce bool) int {
	steps, up := 0, api.Inf
	for l := []api.Node{n}; len(l) > 0; l = frontAsSaid(nextAsSaid(x, l, up)) {
		steps += len(l)
		if end, is := endedAsSaid(x, l); is && atOnce {
			up = min(up, end.Cost)
		}
	}
	return steps
}

// P15.1: the bound may be above Inf: then what costs Inf is found, too.
func TestAboveInf(t *testing.T) {
	x := line()
	all := followed(t, x, 1, 3, 2, 4)
	for _, cost := range []int{api.Inf - 21, api.Inf - 20, api.Inf - 1, api.Inf, api.Inf + 1, math.MaxInt} {
		n := costing(all, cost)
		what := fmt.Sprint("cost ", cost)
		mustBest(t, what+", up Inf", x, n, api.Inf, 9, none(1))
		mustBest(t, what+", up Inf + 1", x, n, api.Inf+1, 9, found(n, api.Inf, 1))
		mustBest(t, what+", up the greatest number", x, n, math.MaxInt, 9, found(n, api.Inf, 1))
	}
	n := costing(all, api.Inf-22)
	mustBest(t, "just below Inf", x, n, api.Inf, 9, found(n, api.Inf-1, 1))
	mustBest(t, "just below Inf, up as much", x, n, api.Inf-1, 9, none(1))
	mustBest(t, "just below Inf, up the greatest number", x, n, math.MaxInt, 9, found(n, api.Inf-1, 1))
}

// P15.1: what n has cost counts, as num's Sum tells it: below 0 it counts as 0, and Inf stays Inf.
func TestCosts(t *testing.T) {
	x := line()
	root, best := followed(t, x), followed(t, x, 1, 2, 4, 3)
	for _, test := range []struct{ cost, end int }{
		{0, 42}, {1, 43}, {7, 49}, {-1, 42}, {-42, 42}, {-1 << 32, 42}, {-api.Inf, 42}, {math.MinInt, 42}, {1 << 32, 1<<32 + 42}, {api.Inf - 100, api.Inf - 58}, {api.Inf - 43, api.Inf - 1},
	} {
		n := costing(root, test.cost)
		what := fmt.Sprint("cost ", test.cost)
		a := bestAsSaid(x, n, api.Inf, 9)
		mustBest(t, what+", up Inf", x, n, api.Inf, 9, found(best, test.end, a.steps))
		mustBest(t, what+", at what it costs", x, n, test.end, 9, none(bestAsSaid(x, n, test.end, 9).steps))
		mustBest(t, what+", at one more", x, n, test.end+1, 9, found(best, test.end, bestAsSaid(x, n, test.end+1, 9).steps))
	}
	// Of what costs Inf in the end none costs less than another one.
	for _, cost := range []int{api.Inf - 42, api.Inf - 41, api.Inf - 21, api.Inf - 11, api.Inf - 10, api.Inf - 1, api.Inf, api.Inf + 1, math.MaxInt - 1, math.MaxInt} {
		n := costing(root, cost)
		what := fmt.Sprint("cost ", cost)
		for _, up := range []int{math.MinInt, 0, api.Inf - 1, api.Inf} {
			mustBest(t, fmt.Sprint(what, ", up ", up), x, n, up, 9, none(bestAsSaid(x, n, up, 9).steps))
		}
		for _, up := range []int{api.Inf + 1, math.MaxInt} {
			a := bestAsSaid(x, n, up, 9)
			mustBest(t, fmt.Sprint(what, ", up ", up), x, n, up, 9, a)
			if !a.is || a.best.Cost != api.Inf || len(a.best.Path) != 4 {
				t.Errorf("%s, up %d: as said it is %+v", what, up, a)
			}
		}
	}
	mustBest(t, "at cost Inf it goes no further", x, costing(root, api.Inf), api.Inf, 9, none(1))
}

// P15.1: moves come behind the path that n has, whatever it is.
func TestPaths(t *testing.T) {
	x := example()
	s := state.Root(x)
	end := followed(t, x, 1, 2)
	for _, path := range [][]int{nil, {}, {9}, {0, 0}, {1, 2}, {math.MinInt, math.MaxInt}, {-1, 0, 1, 2, 3, 4, 5, 6, 7}} {
		want := node(end.S, 12, slices.Concat(path, []int{1, 2})...)
		mustBest(t, fmt.Sprint("path ", path), x, node(s, 0, path...), api.Inf, 9, found(want, 12, 3))
		mustBest(t, fmt.Sprint("it ends, path ", path), x, node(end.S, 3, path...), api.Inf, 9, found(node(end.S, 7, path...), 7, 1))
	}
}

// P15.1: without pairs only Root can be ended, at no cost, and nothing goes on.
func TestWithoutPairs(t *testing.T) {
	x := noPairs()
	root := state.Root(x)
	for _, cost := range edges() {
		for _, up := range edges() {
			end, want := num.Sum(cost), none(1)
			if end < up {
				want = found(node(root, 0, 7, 8), end, 1)
			}
			mustBest(t, fmt.Sprint("Root, cost ", cost, ", up ", up), x, node(root, cost, 7, 8), up, 1, want)
			mustBest(t, fmt.Sprint("most 0, cost ", cost, ", up ", up), x, node(root, cost, 7, 8), up, 0, cutOff(0))
		}
	}
	for name, change := range parts() {
		for _, by := range []int{1, -1} {
			n := node(root, 0)
			change(&n.S, by)
			mustBest(t, name+" is another one", x, n, api.Inf, 9, none(1))
		}
	}
}

// P15.1, P1: nothing goes on, or is ended, where an instance may not be: one step, and none.
func TestWhatMayNotBe(t *testing.T) {
	x := example()
	l := []api.Node{followed(t, x), followed(t, x, 1), followed(t, x, 1, 2), {}, node(state.Root(noPairs()), 0)}
	for _, wrong := range wrongOnes() {
		if inst.May(wrong) {
			t.Fatalf("it may be: %+v", wrong)
		}
		for _, n := range l {
			for _, up := range []int{math.MinInt, 0, api.Inf, math.MaxInt} {
				mustBest(t, "it may not be", wrong, n, up, 1, none(1))
				mustBest(t, "it may not be, most the greatest number", wrong, n, up, math.MaxInt, none(1))
				mustBest(t, "it may not be, most 0", wrong, n, up, 0, cutOff(0))
				mustBest(t, "it may not be, most the least number", wrong, n, up, math.MinInt, cutOff(0))
			}
		}
	}
}

// P15.1, P15.2, P1: states with any numbers and sets.
func TestAnyStates(t *testing.T) {
	x := line()
	for _, path := range [][]int{nil, {1, 3}, {1, 3, 0}, {1, 3, 2, 4}} {
		whole := followed(t, x, path...)
		for _, m := range edges() {
			for name, change := range parts() {
				n := but(whole, func(n *api.Node) { change(&n.S, m); n.Cost = m })
				for _, up := range []int{0, 43, api.Inf, math.MaxInt} {
					for _, most := range []int{1, 3, math.MaxInt} {
						mustBest(t, fmt.Sprint(name, " is another one, by ", m), x, n, up, most, bestAsSaid(x, n, up, most))
					}
				}
				least := leastFrom(x, n)
				mustBeLeast(t, x, n, api.Inf, least)
				mustBeLeast(t, x, n, 43, least)
			}
		}
	}
}

// someNode is a node of an instance, as it comes from Root, or changed so that less must, and more may have been seen.
func someNode(s *lcg, x api.Instance) api.Node {
	n := node(state.Root(x), s.below(9)-2)
	for range s.below(2*len(x.Stops) + 1) {
		if b := behind(x, n); len(b) > 0 {
			n = b[s.below(len(b))]
		}
	}
	if s.below(3) == 0 {
		n.S.Must &^= of(s.below(9))
		n.S.May |= of(s.below(9), s.below(9), s.below(9))
		if s.below(2) == 0 {
			n.S.May |= of(1, 2, 3, 4, 5, 6, 7, 8) & (1<<len(x.Stops) - 1)
			n.S.On = 0
		}
	}
	if s.below(20) == 0 {
		n.Cost = edges()[s.below(len(edges()))]
	}
	return n
}

// P15.1: many nodes, held against the chapter's words.
func TestManyNodes(t *testing.T) {
	s := lcg(1)
	all, foundAll, cut, foundCut, later := 0, 0, 0, 0, 0
	for turn := range 4000 {
		x := scattered(&s, turn%4, 1+s.below(20), 50+s.below(200))
		n := someNode(&s, x)
		if turn%3 == 0 {
			n = node(state.Root(x), s.below(5))
		}
		wide := widths(x, n, api.Inf)
		widest := slices.Max(wide)
		for _, up := range []int{s.below(100), s.below(60), api.Inf, edges()[s.below(len(edges()))]} {
			for _, most := range []int{1 + s.below(widest), widest - 1, widest, edges()[s.below(len(edges()))]} {
				want := bestAsSaid(x, n, up, most)
				mustBest(t, "many", x, n, up, most, want)
				switch {
				case want.all && want.is:
					foundAll++
				case want.all:
					all++
				case want.is:
					foundCut++
					if len(want.best.Path) > len(n.Path) {
						later++
					}
				default:
					cut++
				}
			}
		}
	}
	if all < 5000 || foundAll < 5000 || cut < 2000 || foundCut < 100 || later < 20 {
		t.Errorf("too few of a kind: all and none %d, all and found %d, not all and none %d, not all and found %d, not on the first level %d", all, foundAll, cut, foundCut, later)
	}
}

// leastFrom is the least that it costs to go on from a node and to end, by all ways one by one; Inf: it can't be, or costs as much.
func leastFrom(x api.Instance, n api.Node) int {
	least := api.Inf
	if far, is := state.End(x, n.S); is {
		least = num.Sum(n.Cost, far)
	}
	for _, b := range behind(x, n) {
		least = min(least, leastFrom(x, b))
	}
	return least
}

// mustBeAWay asks that what is found from n goes on from n by moves, and can be ended for what is told.
func mustBeAWay(t *testing.T, x api.Instance, n, best api.Node) {
	t.Helper()
	if !slices.Equal(best.Path[:min(len(n.Path), len(best.Path))], n.Path) {
		t.Fatalf("%+v does not go on from %+v", best, n)
	}
	s, cost := n.S, n.Cost
	for _, j := range best.Path[len(n.Path):] {
		there, far, is := state.Move(x, s, j)
		if !is {
			t.Fatalf("%+v is found, but from %+v it can't go on by %d; of %+v", best, n, j, x)
		}
		s, cost = there, num.Sum(cost, far)
	}
	if far, is := state.End(x, s); !is || s != best.S || num.Sum(cost, far) != best.Cost {
		t.Errorf("%+v is found, but it is %+v then, for %d, and ends, %t, for %d more; of %+v", best, s, cost, is, far, x)
	}
}

// mustBeLeast asks that no way costs less than what is found, nor, if nothing is, less than up.
func mustBeLeast(t *testing.T, x api.Instance, n api.Node, up, least int) (is bool) {
	t.Helper()
	best, is, all, steps := exact.Best(x, n, up, math.MaxInt)
	if !all || steps < 1 {
		t.Errorf("not all was looked at: %d; of %+v, %+v", steps, n, x)
	}
	switch {
	case is != (least < up):
		t.Errorf("%+v, %t; but it can be done for %d, up %d; of %+v, %+v", best, is, least, up, n, x)
	case is && best.Cost != least:
		t.Errorf("%+v is found, but it can be done for %d; of %+v, %+v", best, least, n, x)
	case is:
		mustBeAWay(t, x, n, best)
	case !alike(best, api.Node{}):
		t.Errorf("there is none, but it is %+v", best)
	}
	return is
}

// P15.2: with few pairs, against all ways one by one, with and without a bound, from Root and from nodes behind some moves.
func TestNoWayCostsLess(t *testing.T) {
	s := lcg(2)
	is, not := 0, 0
	for turn := range 1500 {
		x := scattered(&s, turn%4, 1+s.below(25), 20+s.below(150))
		l := []api.Node{{S: state.Root(x)}}
		for range 3 {
			l = append(l, someNode(&s, x))
		}
		for _, n := range l {
			least := leastFrom(x, n)
			for _, up := range []int{api.Inf, least - 1, least, min(least+1, api.Inf), s.below(100), 0} {
				if mustBeLeast(t, x, n, up, least) {
					is++
				} else {
					not++
				}
			}
		}
	}
	if is < 2000 || not < 5000 {
		t.Errorf("too few of a kind: %d, %d", is, not)
	}
}

// P15.2: where not all was looked at, what is found is a way all the same, and costs less than up.
func TestWhatIsFoundUntilThenIsAWay(t *testing.T) {
	s := lcg(3)
	is := 0
	for turn := range 2000 {
		x := scattered(&s, 1+turn%4, 1+s.below(25), 50+s.below(150))
		n := someNode(&s, x)
		n.S.Must &^= of(1, 2, 3)
		up := 10 + s.below(200)
		best, found, all, _ := exact.Best(x, n, up, 1+s.below(8))
		if !found || all {
			continue
		}
		is++
		mustBeAWay(t, x, n, best)
		if best.Cost >= up {
			t.Errorf("%+v, up %d; of %+v, %+v", best, up, n, x)
		}
	}
	if is < 100 {
		t.Errorf("too few of a kind: %d", is)
	}
}

// P15.2, P4: from Root the best one is a plan that may be, and costs that.
func TestItIsAPlan(t *testing.T) {
	s := lcg(4)
	count := 0
	for turn := range 300 {
		x := scattered(&s, turn%5, 1+s.below(30), 50+s.below(150))
		best, is, all, _ := exact.Best(x, node(state.Root(x), 0), api.Inf, 1<<20)
		if !all {
			t.Errorf("not all was looked at: %+v", x)
		}
		if !is {
			continue
		}
		count++
		p, err := tour.Split(best.Path)
		if cost, wrong := plan.Cost(x, p); err != api.OK || wrong != api.OK || cost != best.Cost {
			t.Errorf("%d: Split: %d; it costs %d, %d; found for %d; of %+v", best.Path, err, cost, wrong, best.Cost, x)
		}
	}
	if count < 50 {
		t.Errorf("too few of a kind: %d", count)
	}
}

// P1: with as many pairs as there may be it ends: by most, by a bound, or by short times.
func TestManyPairs(t *testing.T) {
	s := lcg(5)
	x := scattered(&s, api.MaxPairs, 100, 1000)
	x.Cars, x.Room = api.MaxCars, api.MaxAmount
	for i := range x.Stops {
		x.Stops[i].Ready, x.Stops[i].Due = 0, api.MaxTime
	}
	root := node(state.Root(x), 0)
	if best, is, all, steps := exact.Best(x, root, api.Inf, 300); is || all || steps != 1+16+256 {
		t.Errorf("%+v, %t, %t, %d", best, is, all, steps)
	}
	if best, is, all, _ := exact.Best(x, root, bound.At(x, root.S), math.MaxInt); is || !all {
		t.Errorf("%+v, %t, %t", best, is, all)
	}
	// 33 places around a block of 90 by 80, each 10 from the next one, all but the last one, and that 20 from the yard: to go around costs 340, and each other way has to turn somewhere.
	for i := range x.Stops {
		x.Stops[i].X, x.Stops[i].Y = around(10 * i)
	}
	root = node(state.Root(x), 0)
	best, is, all, steps := exact.Best(x, root, 341, math.MaxInt)
	if !is || !all || steps < 33 || best.Cost != 340 || len(best.Path) != 32 {
		t.Errorf("%+v, %t, %t, %d", best, is, all, steps)
	}
	mustBeAWay(t, x, root, best)
	if best, is, all, steps := exact.Best(x, root, 340, math.MaxInt); is || !all {
		t.Errorf("%+v, %t, %t, %d", best, is, all, steps)
	}
}

// around is the place so far around a block of 90 by 80.
func around(far int) (x, y int) {
	switch {
	case far <= 90:
		return far, 0
	case far <= 170:
		return 90, far - 90
	case far <= 260:
		return 260 - far, 80
	default:
		return 0, 340 - far
	}
}

// R3: what is answered stays as it is when all that was handed in is changed.
func TestAnswersStay(t *testing.T) {
	x := line()
	for _, n := range []api.Node{followed(t, x), followed(t, x, 1, 3), followed(t, x, 1, 3, 2, 4), thrown(t)} {
		given := with(x, func(x *api.Instance) {})
		best, is, _, _ := exact.Best(given, n, api.Inf, 9)
		was := guarded(best)
		if !is || len(best.Path) == 0 {
			t.Fatalf("%+v, %t", best, is)
		}
		room := n.Path[:cap(n.Path)]
		for i := range room {
			room[i] = -9
		}
		for k := range given.Stops {
			given.Stops[k] = api.Stop{}
		}
		if !alike(best, was) {
			t.Errorf("it is now %+v, it was %+v", best, was)
		}
	}
}

// R3: nothing is written behind a path that has room there; two answers share nothing.
func TestPathsWithRoom(t *testing.T) {
	x := line()
	row := []int{1, 3, 5, 6, 7, 8, 9}
	n := node(followed(t, x, 1, 3).S, 11, row[:2]...)
	n.Path = row[:2]
	first, _, _, _ := exact.Best(x, n, api.Inf, 9)
	second, _, _, _ := exact.Best(x, n, api.Inf, 9)
	if !slices.Equal(row, []int{1, 3, 5, 6, 7, 8, 9}) {
		t.Errorf("the path's list is now %d", row)
	}
	for i := range first.Path {
		first.Path[i] = -9
	}
	if !slices.Equal(second.Path, []int{1, 3, 2, 4}) || second.Cost != 42 {
		t.Errorf("%+v", second)
	}
	end := api.Node{S: followed(t, x, 1, 3, 2, 4).S, Cost: 21, Path: row[:4]}
	best, is, _, _ := exact.Best(x, end, api.Inf, 9)
	if !is || !slices.Equal(best.Path, []int{1, 3, 5, 6}) || best.Cost != 42 {
		t.Errorf("%+v, %t", best, is)
	}
	for i := range best.Path[:cap(best.Path)] {
		best.Path[:cap(best.Path)][i] = -9
	}
	if !slices.Equal(row, []int{1, 3, 5, 6, 7, 8, 9}) {
		t.Errorf("the path's list is now %d", row)
	}
}

// R5: nothing hangs on what was asked before.
func TestAskedAgain(t *testing.T) {
	s := lcg(6)
	type asked struct {
		x        api.Instance
		n        api.Node
		up, most int
	}
	var all []asked
	for turn := range 40 {
		x := scattered(&s, 1+turn%3, 10, 200)
		all = append(all, asked{x, someNode(&s, x), 10 + s.below(100), 1 + s.below(30)})
	}
	for range 3 {
		for _, a := range all {
			mustBest(t, "again", a.x, a.n, a.up, a.most, bestAsSaid(a.x, a.n, a.up, a.most))
		}
	}
	// Of one instance other stops are asked for, at the same place in memory.
	x := line()
	root := node(state.Root(x), 0)
	best := followed(t, x, 1, 2, 4, 3)
	mustBest(t, "ahead", x, root, api.Inf, 9, found(best, 42, 17))
	for i := range x.Stops {
		x.Stops[i].X *= 2
	}
	mustBest(t, "twice as far", x, root, api.Inf, 9, found(followed(t, x, 1, 2, 4, 3), 84, bestAsSaid(x, root, api.Inf, 9).steps))
}

// The tests' own parts are made as they should be.
func TestWhatTheTestsAreMadeOf(t *testing.T) {
	for _, x := range []api.Instance{example(), line(), waiting(), sides(), dearSides(), threeSides(), noPairs()} {
		if !inst.May(x) {
			t.Errorf("it may not be: %+v", x)
		}
	}
	if of() != 0 || of(1, 3) != 10 || len(parts()) != 8 {
		t.Error("of, or parts")
	}
	if a := bestAsSaid(example(), node(state.Root(example()), 0), api.Inf, 1); !a.is || !a.all || a.steps != 3 || a.best.Cost != 12 || !slices.Equal(a.best.Path, []int{1, 2}) {
		t.Errorf("bestAsSaid: %+v", a)
	}
	if l := frontAsSaid([]api.Node{{Cost: 5}, {Cost: 3}, {S: api.State{At: 1}, Cost: 9}, {Cost: 3}}); len(l) != 2 || l[0].Cost != 3 || l[1].S.At != 1 {
		t.Errorf("frontAsSaid: %+v", l)
	}
	if least := leastFrom(line(), node(state.Root(line()), 0)); least != 42 {
		t.Errorf("leastFrom: %d", least)
	}
	if least := leastFrom(line(), api.Node{}); least != api.Inf {
		t.Errorf("leastFrom: %d", least)
	}
}
