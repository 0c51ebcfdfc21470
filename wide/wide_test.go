package wide_test

import (
	"fmt"
	"math"
	"slices"
	"testing"

	"haulier/api"
	"haulier/bound"
	"haulier/exact"
	"haulier/inst"
	"haulier/num"
	"haulier/plan"
	"haulier/relax"
	"haulier/state"
	"haulier/tour"
	"haulier/wide"
)

// lcg is a row of numbers that are spread out, the same in each run.
type lcg uint64

func (s *lcg) below(n int) int {
	*s = *s*6364136223846793005 + 1442695040888963407
	// The low bits of such a row repeat soon: only the high ones are taken.
	return int(uint64(*s) >> 33 % uint64(n))
}

// of is a set, made by hand.
func of(l ...int) uint64 {
	var s uint64
	for _, i := range l {
		s |= 1 << i
	}
	return s
}

// edges are numbers at which something could change, the least and the greatest that there are among them.
func edges() []int {
	return []int{
		math.MinInt, math.MinInt + 1, -1 << 62, -api.Inf, -1<<32 - 1, -1 << 32, -1 << 31, -256, -2, -1,
		0, 1, 2, 255, 256, 1 << 30, 1<<30 + 1, 1<<31 - 1, 1 << 32, 1<<32 + 1, api.Inf - 1, api.Inf, api.Inf + 1, 1 << 62, math.MaxInt - 1, math.MaxInt,
	}
}

// example is chapter 5's: one pair.
func example() api.Instance {
	return api.Instance{Pairs: 1, Cars: 1, Room: 5, Stops: []api.Stop{
		{X: 0, Y: 0, Demand: 0, Ready: 0, Due: 100, Service: 0},
		{X: 3, Y: 0, Demand: 2, Ready: 0, Due: 50, Service: 1},
		{X: 0, Y: 4, Demand: -2, Ready: 0, Due: 90, Service: 1},
	}}
}

// line are two pairs on a line, with room and time for all, and two cars. The best plans, 1 2 4 3 and 1 3 2 4, cost 42.
func line() api.Instance {
	return api.Instance{Pairs: 2, Cars: 2, Room: 5, Stops: []api.Stop{
		{X: 0, Due: 1000},
		{X: 10, Demand: 1, Due: 1000},
		{X: 20, Demand: 1, Due: 1000},
		{X: 11, Demand: -1, Due: 1000},
		{X: 21, Demand: -1, Due: 1000},
	}}
}

// waiting are three pairs on a line, 10 from stop to stop; where they are brought all wait up to 500, so that many ways lead to one state.
func waiting() api.Instance {
	x := api.Instance{Pairs: 3, Cars: 3, Room: 9}
	for i := range 7 {
		s := api.Stop{X: 10 * i, Due: 1000}
		switch {
		case i == 0:
		case i <= 3:
			s.Demand = 1
		default:
			s.Demand, s.Ready = -1, 500
		}
		x.Stops = append(x.Stops, s)
	}
	return x
}

// sides are two pairs, one on each side of the yard, with room and time for all: a car of its own for each costs 44, and so does one for both.
func sides() api.Instance {
	return api.Instance{Pairs: 2, Cars: 2, Room: 5, Stops: []api.Stop{
		{X: 100, Due: 1000},
		{X: 110, Demand: 1, Due: 1000},
		{X: 90, Demand: 1, Due: 1000},
		{X: 111, Demand: -1, Due: 1000},
		{X: 89, Demand: -1, Due: 1000},
	}}
}

// dearSides are sides at such times that one car for both has to go there and back, and costs 64.
func dearSides() api.Instance {
	x := sides()
	x.Stops[1].Due, x.Stops[2].Due, x.Stops[3].Ready = 10, 50, 100
	return x
}

// threeSides are dearSides, and a third pair on a side of its own: one car costs 74, two 60, three 66.
func threeSides() api.Instance {
	return api.Instance{Pairs: 3, Cars: 3, Room: 5, Stops: []api.Stop{
		{X: 100, Y: 100, Due: 1000},
		{X: 110, Y: 100, Demand: 1, Due: 10},
		{X: 90, Y: 100, Demand: 1, Due: 50},
		{X: 100, Y: 110, Demand: 1, Due: 1000},
		{X: 111, Y: 100, Demand: -1, Ready: 100, Due: 1000},
		{X: 89, Y: 100, Demand: -1, Due: 1000},
		{X: 100, Y: 111, Demand: -1, Due: 1000},
	}}
}

func noPairs() api.Instance {
	return api.Instance{Cars: 2, Room: 1, Stops: []api.Stop{{X: 4, Y: 5, Ready: 6, Due: 7}}}
}

// scattered is an instance of so many pairs, on so many places a side, whose times are as short.
func scattered(s *lcg, pairs, side, due int) api.Instance {
	x := api.Instance{Pairs: pairs, Cars: 1 + s.below(3), Room: 5 + s.below(10)}
	for i := range 2*pairs + 1 {
		p := api.Stop{X: s.below(side), Y: s.below(side), Ready: s.below(1 + due/2), Service: s.below(3)}
		p.Due = p.Ready + s.below(1+due)
		switch {
		case i == 0:
			p.Service, p.Ready = 0, p.Ready/4
			p.Due += due
		case i <= pairs:
			p.Demand = 1 + s.below(5)
		default:
			p.Due += due / 2
			p.Demand = -x.Stops[i-pairs].Demand
		}
		x.Stops = append(x.Stops, p)
	}
	return x
}

// with is x after a change.
func with(x api.Instance, change func(x *api.Instance)) api.Instance {
	x.Stops = slices.Clone(x.Stops)
	change(&x)
	return x
}

// wrongOnes are instances that may not be.
func wrongOnes() []api.Instance {
	wrong := []api.Instance{
		{},
		{Cars: 1, Room: 1},
		{Pairs: 1, Cars: 1, Room: 5, Stops: append(example().Stops, api.Stop{})},
		{Pairs: 1, Cars: 1, Room: 5, Stops: example().Stops[:2]},
		{Pairs: 17, Cars: 1, Room: 17, Stops: make([]api.Stop, 35)},
		{Pairs: 1 << 10, Cars: 1, Room: 1, Stops: make([]api.Stop, 1<<11+1)},
		with(noPairs(), func(x *api.Instance) { x.Cars = 0 }),
		with(noPairs(), func(x *api.Instance) { x.Stops[0].Due = 5 }),
	}
	for i := range 3 + 6*3 {
		for _, n := range []int{math.MinInt, -1001, -1, 1<<20 + 1, 1<<32 + 1, 1<<62 + 1, math.MaxInt} {
			x := example()
			l := []*int{&x.Pairs, &x.Cars, &x.Room}
			for k := range x.Stops {
				s := &x.Stops[k]
				l = append(l, &s.X, &s.Y, &s.Demand, &s.Ready, &s.Due, &s.Service)
			}
			*l[i] = n
			wrong = append(wrong, x)
		}
	}
	return wrong
}

// node is one by hand.
func node(s api.State, cost int, path ...int) api.Node { return api.Node{S: s, Cost: cost, Path: path} }

// but is n after a change; its path is its own.
func but(n api.Node, change func(n *api.Node)) api.Node {
	n.Path = slices.Clone(n.Path)
	change(&n)
	return n
}

// costing is n, at another cost.
func costing(n api.Node, cost int) api.Node {
	return but(n, func(n *api.Node) { n.Cost = cost })
}

// followed is the node behind moves from Root.
func followed(t *testing.T, x api.Instance, path ...int) api.Node {
	t.Helper()
	s, cost, err := state.Follow(x, path)
	if err != api.OK {
		t.Fatalf("Follow %d: %d", path, err)
	}
	return node(s, cost, path...)
}

// thrown is a node of line in which two were thrown together: all stops may have been seen there, but stop 3 need not. It can be ended for 71, and go on.
func thrown(t *testing.T) api.Node {
	t.Helper()
	x := line()
	joined, is := relax.Join(followed(t, x, 1, 2, 4).S, followed(t, x, 1, 3, 2, 4).S)
	if !is || joined.May != of(1, 2, 3, 4) || joined.Must != of(1, 2, 4) {
		t.Fatalf("Join: %+v, %t", joined, is)
	}
	return node(joined, 50, 9)
}

// loose is a node of waiting at which all may have been seen, but only stop 1 must: it can be ended for 10, and go on to all stops, and to the yard.
func loose() api.Node {
	return node(api.State{At: 1, Car: 1, First: 1, Must: of(1), May: of(1, 2, 3, 4, 5, 6)}, 0, 7)
}

// parts change each number and each set of a state, and nothing else.
func parts() map[string]func(s *api.State, by int) {
	return map[string]func(s *api.State, by int){
		"At":    func(s *api.State, by int) { s.At += by },
		"Car":   func(s *api.State, by int) { s.Car += by },
		"Time":  func(s *api.State, by int) { s.Time += by },
		"Load":  func(s *api.State, by int) { s.Load += by },
		"First": func(s *api.State, by int) { s.First += by },
		"Must":  func(s *api.State, by int) { s.Must += uint64(by) },
		"May":   func(s *api.State, by int) { s.May += uint64(by) },
		"On":    func(s *api.State, by int) { s.On += uint64(by) },
	}
}

// onceAsSaid is chapter 14's Once by its words.
func onceAsSaid(l []api.Node) []api.Node {
	var once []api.Node
	for k, n := range l {
		sameState := func(m api.Node) bool { return m.S == n.S }
		if slices.ContainsFunc(l[:k], sameState) {
			continue
		}
		for _, m := range l[k:] {
			if sameState(m) && m.Cost < n.Cost {
				n = m
			}
		}
		once = append(once, n)
	}
	return once
}

// behind are the nodes behind each move that can be made, node by node, rising, whatever they cost.
func behind(x api.Instance, l ...api.Node) []api.Node {
	var next []api.Node
	for _, n := range l {
		for j := 0; j <= 2*len(x.Stops); j++ {
			if s, far, is := state.Move(x, n.S, j); is {
				next = append(next, node(s, num.Sum(n.Cost, far), append(slices.Clone(n.Path), j)...))
			}
		}
	}
	return next
}

// nextAsSaid are the nodes that chapter 14's Expand answers, by its words.
func nextAsSaid(x api.Instance, l []api.Node, up int) []api.Node {
	var next []api.Node
	for _, n := range behind(x, l...) {
		if !(bound.Of(x, n) >= up) {
			next = append(next, n)
		}
	}
	return onceAsSaid(next)
}

// endedAsSaid is the best node that can be ended of chapter 14's Expand, by its words.
func endedAsSaid(x api.Instance, l []api.Node) (api.Node, bool) {
	var best api.Node
	found := false
	for _, n := range l {
		far, is := state.End(x, n.S)
		if !is {
			continue
		}
		n.Cost = num.Sum(n.Cost, far)
		if !found || n.Cost < best.Cost {
			best, found = n, true
		}
	}
	return best, found
}

// sortedAsSaid is chapter 14's Sorted by its words: each node stands behind as many as are to be ahead of it.
func sortedAsSaid(x api.Instance, l []api.Node) []api.Node {
	sorted := make([]api.Node, len(l))
	least := make([]int, len(l))
	for k, n := range l {
		least[k] = bound.Of(x, n)
	}
	for k, n := range l {
		ahead := 0
		for i := range l {
			if least[i] < least[k] || least[i] == least[k] && i < k {
				ahead++
			}
		}
		sorted[ahead] = n
	}
	return sorted
}

// joinAsSaid is chapter 11's Join of some states of one stop, by its words.
func joinAsSaid(l []api.State) api.State {
	s := l[0]
	for _, o := range l {
		s.Car, s.Time, s.Load, s.First = min(s.Car, o.Car), min(s.Time, o.Time), min(s.Load, o.Load), min(s.First, o.First)
		s.Must, s.On, s.May = s.Must&o.Must, s.On&o.On, s.May|o.May
	}
	return s
}

// squeezeAsSaid is Squeeze by the chapter's words.
func squeezeAsSaid(x api.Instance, l []api.Node, width int) []api.Node {
	if width < len(x.Stops) {
		width = len(x.Stops)
	}
	sorted := sortedAsSaid(x, l)
	if len(l) <= width {
		return sorted
	}
	var few []api.Node
	for k := 0; k < width-len(x.Stops); k++ {
		few = append(few, sorted[k])
	}
	others := sorted[len(few):]
	for stop := 0; stop < len(x.Stops); stop++ {
		var there []api.State
		least := math.MaxInt
		for _, n := range others {
			if n.S.At == stop {
				there = append(there, n.S)
				least = min(least, n.Cost)
			}
		}
		if len(there) > 0 {
			few = append(few, node(joinAsSaid(there), least))
		}
	}
	return few
}

// deepAsSaid is Deep by the chapter's words.
func deepAsSaid(x api.Instance) int {
	if !inst.May(x) {
		return 0
	}
	return 2*x.Pairs + x.Cars - 1
}

// lowAsSaid is a diagram's Low by the chapter's words.
func lowAsSaid(x api.Instance, layers [][]api.Node, up int) int {
	least := up
	for _, l := range layers {
		if best, is := endedAsSaid(x, l); is && best.Cost < least {
			least = best.Cost
		}
	}
	return least
}

// buildAsSaid is Build by the chapter's words.
func buildAsSaid(x api.Instance, n api.Node, width, up int) api.Diagram {
	layers, squeezed := [][]api.Node{{n}}, -1
	for number := 0; number+len(n.Path) < deepAsSaid(x); number++ {
		next := nextAsSaid(x, layers[number], up)
		if len(next) > max(width, len(x.Stops)) {
			next = squeezeAsSaid(x, next, width)
			if squeezed < 0 {
				squeezed = number + 1
			}
		}
		if len(next) == 0 {
			break
		}
		layers = append(layers, next)
	}
	d := api.Diagram{Layers: layers, Low: lowAsSaid(x, layers, up), Exact: squeezed < 0, Sure: squeezed}
	if d.Exact {
		d.Sure = len(layers)
	}
	return d
}

// alike tells whether two nodes have all the same, their paths, too.
func alike(a, b api.Node) bool {
	return a.S == b.S && a.Cost == b.Cost && slices.Equal(a.Path, b.Path)
}

func allAlike(a, b []api.Node) bool { return slices.EqualFunc(a, b, alike) }

func sameDiagram(a, b api.Diagram) bool {
	return slices.EqualFunc(a.Layers, b.Layers, allAlike) && a.Low == b.Low && a.Exact == b.Exact && a.Sure == b.Sure
}

// told are nodes as a text: where they are, what they have cost, and their paths.
func told(l []api.Node) string {
	text := ""
	for _, n := range l {
		text += fmt.Sprintf(" %d:%d%d", n.S.At, n.Cost, n.Path)
	}
	return text
}

// widthsOf are how many nodes each layer has.
func widthsOf(d api.Diagram) []int {
	var wide []int
	for _, l := range d.Layers {
		wide = append(wide, len(l))
	}
	return wide
}

// guarded are copies of nodes whose paths have room behind them, in which nothing may be written, as the list has.
func guarded(l []api.Node) []api.Node {
	var own []api.Node
	for _, n := range l {
		n.Path = slices.Concat(n.Path, []int{-71, -72, -73})[:len(n.Path)]
		own = append(own, n)
	}
	return slices.Concat(own, []api.Node{{Cost: -74}, {Cost: -75}})[:len(l)]
}

// mustStay asks that nodes are as they were, the room behind them and behind their paths, too.
func mustStay(t *testing.T, what string, l, was []api.Node) {
	t.Helper()
	if !allAlike(l, was) || !allAlike(l[:len(l)+2], was[:len(l)+2]) {
		t.Fatalf("%s: the nodes are now %+v, they were %+v", what, l, was)
	}
	for k, n := range l {
		if room := len(n.Path) + 3; !slices.Equal(n.Path[:room], was[k].Path[:room]) {
			t.Fatalf("%s: behind the path there is now %d, there was %d", what, n.Path[:room], was[k].Path[:room])
		}
	}
}

// spoil writes over all of a list, its paths, and the room behind each.
func spoil(l []api.Node) {
	for _, n := range l {
		for i := range n.Path[:cap(n.Path)] {
			n.Path[:cap(n.Path)][i] = -98765
		}
	}
	for k := range l[:cap(l)] {
		l[:cap(l)][k] = api.Node{Cost: -98765}
	}
}

// mustOwn asks that no two lists of an answer share anything: while one after the other is written over, those left stay as they should be.
func mustOwn(t *testing.T, what string, lists, want [][]api.Node) {
	t.Helper()
	for k := range lists {
		for i := range lists[k] {
			// All paths but one, and then that one.
			for m := range lists[k][i].Path[:cap(lists[k][i].Path)] {
				lists[k][i].Path[:cap(lists[k][i].Path)][m] = -98765
			}
			if rest := lists[k][i+1:]; !allAlike(rest, want[k][i+1:]) {
				t.Fatalf("%s: after a path was written over there is %s, not %s", what, told(rest), told(want[k][i+1:]))
			}
		}
		spoil(lists[k])
		if rest := lists[k+1:]; !slices.EqualFunc(rest, want[k+1:], allAlike) {
			t.Fatalf("%s: after a list was written over there is %+v, not %+v", what, rest, want[k+1:])
		}
	}
}

// mustSqueeze asks for just these nodes of Squeeze, that what is handed in stays as it was, and that nothing is shared.
func mustSqueeze(t *testing.T, what string, x api.Instance, l []api.Node, width int, want []api.Node) {
	t.Helper()
	stops := slices.Clone(x.Stops)
	given, was := guarded(l), guarded(l)
	few := wide.Squeeze(x, given, width)
	if !allAlike(few, want) {
		t.Errorf("%s: Squeeze: %+v;\nwant %+v;\nof %+v, width %d, %+v", what, few, want, l, width, x)
		return
	}
	mustStay(t, what, given, was)
	mustOwn(t, what, [][]api.Node{few}, [][]api.Node{want})
	mustStay(t, what+", the answer is changed", given, was)
	if !slices.Equal(x.Stops, stops) {
		t.Errorf("%s: the stops are now %+v, they were %+v", what, x.Stops, stops)
	}
}

// mustBuild asks for just this diagram of Build, that what is handed in stays as it was, and that nothing is shared.
func mustBuild(t *testing.T, what string, x api.Instance, n api.Node, width, up int, want api.Diagram) {
	t.Helper()
	stops := slices.Clone(x.Stops)
	given, was := guarded([]api.Node{n}), guarded([]api.Node{n})
	d := wide.Build(x, given[0], width, up)
	if !sameDiagram(d, want) {
		t.Errorf("%s: Build: %d, Low %d, Exact %t, Sure %d, %+v;\nwant %d, %+v;\nof %+v, width %d, up %d, %+v", what, widthsOf(d), d.Low, d.Exact, d.Sure, d, widthsOf(want), want, n, width, up, x)
		return
	}
	mustStay(t, what, given, was)
	mustOwn(t, what, d.Layers, want.Layers)
	mustStay(t, what+", the answer is changed", given, was)
	if !slices.Equal(x.Stops, stops) {
		t.Errorf("%s: the stops are now %+v, they were %+v", what, x.Stops, stops)
	}
}

// mustBe asks for layers that are so wide, and for these numbers, and holds the rest against the chapter's words.
func mustBe(t *testing.T, what string, x api.Instance, n api.Node, width, up int, layers []int, low, sure int) {
	t.Helper()
	want := buildAsSaid(x, n, width, up)
	if !slices.Equal(widthsOf(want), layers) || want.Low != low || want.Sure != sure || want.Exact != (sure == len(layers)) {
		t.Errorf("%s, width %d, up %d: as said it is %d, Low %d, Exact %t, Sure %d;\nnot %d, %d, %d", what, width, up, widthsOf(want), want.Low, want.Exact, want.Sure, layers, low, sure)
	}
	mustBuild(t, what, x, n, width, up, want)
}

// P17.2: the chapter's example, at all widths and bounds.
func TestExample(t *testing.T) {
	x := example()
	root := followed(t, x)
	layers := [][]api.Node{{root}, {followed(t, x, 1)}, {followed(t, x, 1, 2)}}
	mustBuild(t, "Root", x, root, 1, api.Inf, api.Diagram{Layers: layers, Low: 12, Exact: true, Sure: 3})
	for _, width := range edges() {
		what := fmt.Sprint("width ", width)
		// It costs 10 at least behind the first move, and 11 behind the second one.
		for _, test := range []struct{ up, sure int }{
			{math.MinInt, 1}, {-api.Inf, 1}, {-1, 1}, {0, 1}, {1, 1}, {9, 1}, {10, 1}, {11, 2}, {12, 3}, {13, 3}, {14, 3}, {api.Inf - 1, 3}, {api.Inf, 3}, {math.MaxInt, 3},
		} {
			want := api.Diagram{Layers: layers[:test.sure], Low: min(12, test.up), Exact: true, Sure: test.sure}
			mustBuild(t, fmt.Sprint(what, ", up ", test.up), x, root, width, test.up, want)
		}
		mustBuild(t, what+", behind the first move", x, layers[1][0], width, api.Inf, api.Diagram{Layers: layers[1:], Low: 12, Exact: true, Sure: 2})
		mustBuild(t, what+", behind both", x, layers[2][0], width, api.Inf, api.Diagram{Layers: layers[2:], Low: 12, Exact: true, Sure: 1})
	}
	late := with(x, func(x *api.Instance) { x.Stops[0].Due = 13 })
	mustBuild(t, "there is no plan: it comes back too late", late, root, 1, api.Inf, api.Diagram{Layers: layers, Low: api.Inf, Exact: true, Sure: 3})
	late.Stops[0].Due = 14
	mustBuild(t, "it comes back just in time", late, root, 1, api.Inf, api.Diagram{Layers: layers, Low: 12, Exact: true, Sure: 3})
}

// mustBeDeep asks for Deep, and that the stops stay as they were.
func mustBeDeep(t *testing.T, what string, x api.Instance, want int) {
	t.Helper()
	stops := slices.Clone(x.Stops)
	if deep := wide.Deep(x); deep != want || !slices.Equal(x.Stops, stops) {
		t.Errorf("%s: Deep: %d, want %d; of %+v", what, deep, want, x)
	}
}

// sizes are instances of each number of pairs and of cars, with stops that are all alike, but for what is taken in, and so far apart.
func sizes(like api.Stop, apart, amount, room int) []api.Instance {
	var l []api.Instance
	for pairs := range api.MaxPairs + 1 {
		for cars := 1; cars <= api.MaxCars; cars++ {
			x := api.Instance{Pairs: pairs, Cars: cars, Room: room}
			for i := range 2*pairs + 1 {
				s := like
				s.X += apart * i
				switch {
				case i == 0:
					s.Service = 0
				case i <= pairs:
					s.Demand = amount
				default:
					s.Demand = -amount
				}
				x.Stops = append(x.Stops, s)
			}
			l = append(l, x)
		}
	}
	return l
}

// P17.1: Deep, of each number of pairs and of cars, whatever room and times there are.
func TestDeep(t *testing.T) {
	mustBeDeep(t, "chapter 5's example: one car", example(), 2)
	mustBeDeep(t, "two pairs, two cars", line(), 5)
	mustBeDeep(t, "three pairs, three cars", waiting(), 8)
	mustBeDeep(t, "no pairs, two cars", noPairs(), 1)
	mustBeDeep(t, "no pairs, one car", with(noPairs(), func(x *api.Instance) { x.Cars = 1 }), 0)
	for name, like := range map[string]api.Stop{
		"all at one place, at one time":  {},
		"far away":                       {X: api.MaxCoord - 32*300, Y: api.MaxCoord, Due: api.MaxTime},
		"at one time, and long":          {X: 5, Y: 7, Ready: 9, Due: 9, Service: 1000},
		"as late as may be":              {Ready: api.MaxTime, Due: api.MaxTime, Service: 1000},
		"at any time":                    {X: 1, Due: api.MaxTime},
		"at one place, between two ones": {X: 3, Y: 3, Ready: 100, Due: 101, Service: 1},
	} {
		for _, test := range []struct{ amount, room int }{{1, 1}, {2, 1}, {1000, 1}, {1000, 1000}, {1, 1000}} {
			// Apart, none of them is come to in time from another one, if the times are short.
			for _, apart := range []int{0, 300} {
				for _, x := range sizes(like, apart, test.amount, test.room) {
					if !inst.May(x) {
						t.Fatalf("it may not be: %+v", x)
					}
					mustBeDeep(t, name, x, 2*x.Pairs+x.Cars-1)
				}
			}
		}
	}
}

// P17.1: Deep is 0, if an instance may not be, however little is wrong with it.
func TestDeepOfWhatMayNotBe(t *testing.T) {
	for _, x := range wrongOnes() {
		mustBeDeep(t, "it may not be", x, 0)
	}
	may, not := 0, 0
	for _, x := range []api.Instance{example(), line(), noPairs()} {
		for k := range 3 + 6*len(x.Stops) {
			for _, n := range slices.Concat(edges(), []int{-3, -4, 3, 4, 5, 8, 9, 16, 17, 1000, 1001, 10000, 10001, 1 << 20, 1<<20 + 1}) {
				y := with(x, func(x *api.Instance) {
					l := []*int{&x.Pairs, &x.Cars, &x.Room}
					for i := range x.Stops {
						s := &x.Stops[i]
						l = append(l, &s.X, &s.Y, &s.Demand, &s.Ready, &s.Due, &s.Service)
					}
					*l[k] = n
				})
				mustBeDeep(t, fmt.Sprint("number ", k, " is ", n), y, deepAsSaid(y))
				if inst.May(y) {
					may++
				} else {
					not++
				}
			}
		}
		for stops := range 2 * len(x.Stops) {
			y := with(x, func(x *api.Instance) { x.Stops = slices.Concat(x.Stops, x.Stops)[:stops] })
			mustBeDeep(t, fmt.Sprint(stops, " stops"), y, deepAsSaid(y))
		}
	}
	if may < 200 || not < 1000 {
		t.Errorf("too few of a kind: %d, %d", may, not)
	}
}

// seen is a node of line, at a stop, from which it costs 10 more at least: all may have been seen.
func seen(at, cost int, path ...int) api.Node {
	return node(api.State{At: at, Car: 1, First: 1, Must: of(1), May: of(1, 2, 3, 4)}, cost, path...)
}

// eight are two nodes at each stop of line but the yard, dearer ones first; one may be left out.
func eight() []api.Node {
	var l []api.Node
	for k := range 8 {
		l = append(l, seen(1+k%4, 80-10*k, k, k))
	}
	return l
}

// P17.1: which nodes stay as they are, and which are thrown together, at each width.
func TestSqueezeWidths(t *testing.T) {
	x := line()
	sorted := eight()
	slices.Reverse(sorted)
	for _, test := range []struct {
		width int
		want  string
	}{
		{math.MinInt, " 1:40[] 2:30[] 3:20[] 4:10[]"}, {-1 << 32, " 1:40[] 2:30[] 3:20[] 4:10[]"}, {-1, " 1:40[] 2:30[] 3:20[] 4:10[]"}, {0, " 1:40[] 2:30[] 3:20[] 4:10[]"},
		{1, " 1:40[] 2:30[] 3:20[] 4:10[]"}, {4, " 1:40[] 2:30[] 3:20[] 4:10[]"}, {5, " 1:40[] 2:30[] 3:20[] 4:10[]"},
		{6, " 4:10[7 7] 1:40[] 2:30[] 3:20[] 4:50[]"}, {7, " 4:10[7 7] 3:20[6 6] 1:40[] 2:30[] 3:60[] 4:50[]"},
		{8, told(sorted)}, {9, told(sorted)}, {1 << 32, told(sorted)}, {1<<32 + 5, told(sorted)}, {math.MaxInt - 1, told(sorted)}, {math.MaxInt, told(sorted)},
	} {
		what := fmt.Sprint("width ", test.width)
		want := squeezeAsSaid(x, eight(), test.width)
		if told(want) != test.want {
			t.Errorf("%s: as said it is %s, not %s", what, told(want), test.want)
		}
		mustSqueeze(t, what, x, eight(), test.width, want)
	}
	for _, width := range edges() {
		mustSqueeze(t, fmt.Sprint("width ", width), x, eight(), width, squeezeAsSaid(x, eight(), width))
	}
}

// P17.1: no nodes, one, and as many as the width, or one more.
func TestSqueezeFewAndMore(t *testing.T) {
	x := line()
	for _, width := range edges() {
		what := fmt.Sprint("width ", width)
		mustSqueeze(t, what+", nil", x, nil, width, nil)
		mustSqueeze(t, what+", empty", x, []api.Node{}, width, nil)
		for _, at := range []int{math.MinInt, -1, 0, 1, 4, 5, math.MaxInt} {
			n := seen(at, 7, 8, 9)
			mustSqueeze(t, what+", one", x, []api.Node{n}, width, []api.Node{n})
		}
	}
	for _, width := range []int{math.MinInt, 0, 4, 5, 6, 7, 20} {
		just := max(width, 5)
		var l []api.Node
		for k := range just + 1 {
			l = append(l, seen(3, 100-k, k))
		}
		sorted := slices.Clone(l[:just])
		slices.Reverse(sorted)
		mustSqueeze(t, fmt.Sprint("just as many as the width ", width), x, l[:just], width, sorted)
		// All but the first ones are thrown together.
		sorted = slices.Clone(l)
		slices.Reverse(sorted)
		want := slices.Concat(sorted[:just-5], []api.Node{seen(3, 100-just+just-5)})
		mustSqueeze(t, fmt.Sprint("one more than the width ", width), x, l, width, want)
	}
}

// P17.1: an instance without stops has no less a width than 0, and nothing is thrown together.
func TestSqueezeWithoutStops(t *testing.T) {
	l := []api.Node{node(api.State{}, 5, 1), node(api.State{}, 3, 2), node(api.State{At: 1}, 4, 3)}
	for _, x := range []api.Instance{{}, {Stops: []api.Stop{}}, {Pairs: 1, Cars: 1, Room: 1}} {
		for _, test := range []struct {
			width int
			want  string
		}{{math.MinInt, ""}, {-1, ""}, {0, ""}, {1, " 0:3[2]"}, {2, " 0:3[2] 1:4[3]"}, {3, " 0:3[2] 1:4[3] 0:5[1]"}, {math.MaxInt, " 0:3[2] 1:4[3] 0:5[1]"}} {
			want := squeezeAsSaid(x, l, test.width)
			if told(want) != test.want {
				t.Errorf("width %d: as said it is %s, not %s", test.width, told(want), test.want)
			}
			mustSqueeze(t, fmt.Sprint("width ", test.width), x, l, test.width, want)
			mustSqueeze(t, fmt.Sprint("none, width ", test.width), x, nil, test.width, nil)
		}
	}
}

// P17.1: what is at no stop is left out, unless it is among the first ones.
func TestSqueezeElsewhere(t *testing.T) {
	x := line()
	var l []api.Node
	for k, at := range []int{math.MinInt, -1 << 32, -2, -1, 0, 4, 5, 6, 1 << 32, 1<<32 + 1, math.MaxInt} {
		l = append(l, seen(at, 100-10*k, k))
	}
	for _, test := range []struct {
		width int
		want  string
	}{
		{0, " 0:60[] 4:50[]"}, {5, " 0:60[] 4:50[]"},
		{6, fmt.Sprint(" ", math.MaxInt, ":0[10] 0:60[] 4:50[]")},
		{9, fmt.Sprint(" ", math.MaxInt, ":0[10] ", 1<<32+1, ":10[9] ", 1<<32, ":20[8] 6:30[7] 0:60[] 4:50[]")},
		{10, fmt.Sprint(" ", math.MaxInt, ":0[10] ", 1<<32+1, ":10[9] ", 1<<32, ":20[8] 6:30[7] 5:40[6] 0:60[] 4:50[]")},
	} {
		what := fmt.Sprint("width ", test.width)
		want := squeezeAsSaid(x, l, test.width)
		if told(want) != test.want {
			t.Errorf("%s: as said it is %s, not %s", what, told(want), test.want)
		}
		mustSqueeze(t, what, x, l, test.width, want)
	}
	// All are at no stop.
	nowhere := slices.Concat(l[:4], l[6:])
	for width := -1; width < 12; width++ {
		want := squeezeAsSaid(x, nowhere, width)
		if width < 9 && len(want) != max(0, width-5) {
			t.Errorf("as said it is %s", told(want))
		}
		mustSqueeze(t, fmt.Sprint("nowhere, width ", width), x, nowhere, width, want)
	}
	// As many of them as there may be: they are counted, too, though they are left out.
	mustSqueeze(t, "two are at a stop", x, slices.Concat(nowhere[:4], []api.Node{seen(2, 1, 7), seen(2, 0, 8)}), 5, []api.Node{seen(2, 0)})
}

// P17.1: where the first ones end, of nodes that cost as much in the end those stay as they are that stood first; what they have cost till then does not count.
func TestSqueezeEquals(t *testing.T) {
	x := line()
	var l []api.Node
	for k := range 9 {
		l = append(l, seen(1+k%2, 50, k))
	}
	mustSqueeze(t, "one is left", x, l, 6, []api.Node{l[0], seen(1, 50), seen(2, 50)})
	mustSqueeze(t, "two are left", x, l, 7, []api.Node{l[0], l[1], seen(1, 50), seen(2, 50)})
	mustSqueeze(t, "three are left", x, l, 8, []api.Node{l[0], l[1], l[2], seen(1, 50), seen(2, 50)})
	mustSqueeze(t, "all are left", x, l, 9, l)
	// What is dearer till then may cost less in the end: from stop to stop it is 1, and 9 to stop 2.
	early := node(api.State{At: 1, Car: 1, Must: of(1), May: of(1)}, 10, 1)
	later := node(api.State{At: 3, Car: 1, Must: of(1, 3), May: of(1, 2, 3, 4)}, 11, 2)
	if a, b := bound.Of(x, early), bound.Of(x, later); a <= b {
		t.Fatalf("in the end they cost %d and %d", a, b)
	}
	l = []api.Node{early, early, early, later, early, early, early}
	mustSqueeze(t, "the dearer one is the first one", x, l, 6, []api.Node{later, but(early, func(n *api.Node) { n.Path = nil })})
	// Costs below 0 count as 0, and those above Inf as Inf.
	l = []api.Node{seen(1, api.Inf, 0), seen(1, math.MaxInt, 1), seen(2, 0, 2), seen(2, -5, 3), seen(2, math.MinInt, 4), seen(3, api.Inf-10, 5), seen(3, api.Inf-11, 6)}
	for width := 5; width < 9; width++ {
		mustSqueeze(t, fmt.Sprint("costs of all kinds, width ", width), x, l, width, squeezeAsSaid(x, l, width))
	}
	mustSqueeze(t, "costs of all kinds, one is left", x, l, 6, []api.Node{seen(2, 0, 2), seen(1, api.Inf), seen(2, math.MinInt), seen(3, api.Inf-11)})
}

// P17.1: what is thrown together has the least Cost of those at its stop, as it is, wherever that stands.
func TestSqueezeLeastCost(t *testing.T) {
	x := line()
	for _, costs := range [][]int{
		{5, 4, 6, 4, 5, 5}, {4, 5, 6, 7, 8, 9}, {9, 8, 7, 6, 5, 4}, {0, -1, 0, 1, 2, 3}, {-1, -2, -3, -2, -1, 0}, {math.MinInt, math.MaxInt, 0, 1, 2, 3},
		{api.Inf, api.Inf, api.Inf, api.Inf, api.Inf, api.Inf}, {api.Inf, api.Inf + 1, math.MaxInt, api.Inf + 2, math.MaxInt, math.MaxInt},
		{math.MaxInt, api.Inf + 5, math.MaxInt, math.MaxInt, math.MaxInt, math.MaxInt}, {api.Inf, api.Inf - 1, api.Inf, api.Inf, api.Inf, api.Inf}, {-api.Inf, -api.Inf - 1, 0, 0, 0, 0},
	} {
		for stop := range 5 {
			var l []api.Node
			for k, cost := range costs {
				l = append(l, seen(stop, cost, k))
			}
			mustSqueeze(t, fmt.Sprint("stop ", stop, ", costs ", costs), x, l, 5, []api.Node{seen(stop, slices.Min(costs))})
		}
	}
}

// P17.1: one alone at its stop is left as it is, but for its path.
func TestSqueezeOneAlone(t *testing.T) {
	x := line()
	alone := node(api.State{At: 2, Car: 2, Time: 30, Load: 4, First: 1, Must: of(1, 2), May: of(1, 2, 3), On: of(2)}, 33, 1, 3, 0, 2)
	l := []api.Node{seen(4, 1, 1), seen(4, 2, 2), seen(4, 3, 3), seen(4, 4, 4), seen(4, 5, 5), alone}
	without := but(alone, func(n *api.Node) { n.Path = nil })
	mustSqueeze(t, "alone", x, l, 5, []api.Node{without, seen(4, 1)})
	mustSqueeze(t, "alone, the first one is left", x, slices.Concat(l, l[:1]), 6, []api.Node{l[0], without, seen(4, 1)})
	// One at each stop is as many as the width at least: none is alone at each stop.
	l = []api.Node{seen(0, 9, 1), seen(1, 8, 1), seen(2, 7, 1), seen(3, 6, 1), seen(4, 5, 1), seen(-1, 4, 1)}
	mustSqueeze(t, "one at each stop, and one elsewhere", x, l, 5, []api.Node{seen(0, 9), seen(1, 8), seen(2, 7), seen(3, 6), seen(4, 5)})
}

// P17.1: what is thrown together has the least numbers, what all must have seen, and have on, and what one of them may have seen.
func TestSqueezeStates(t *testing.T) {
	x := line()
	l := []api.Node{
		node(api.State{At: 3, Car: 2, Time: 50, Load: 3, First: 2, Must: of(1, 3), May: of(1, 3), On: of(1, 2)}, 90, 1),
		node(api.State{At: 3, Car: 1, Time: 60, Load: 4, First: 3, Must: of(2, 3), May: of(2, 3), On: of(2)}, 80, 2),
		node(api.State{At: 3, Car: 3, Time: 40, Load: 5, First: 4, Must: of(3, 4), May: of(3, 4), On: of(2, 3)}, 70, 3),
		node(api.State{At: 3, Car: 4, Time: 70, Load: 2, First: 5, Must: of(3), May: of(3), On: of(2, 4)}, 85, 4),
		node(api.State{At: 3, Car: 5, Time: 80, Load: 6, First: 1, Must: of(3, 5), May: of(3, 63), On: of(2, 3, 4)}, 95, 5),
		node(api.State{At: 3, Car: 6, Time: 90, Load: 7, First: 6, Must: of(3, 6), May: of(3), On: of(2, 5)}, 75, 6),
	}
	joined := api.State{At: 3, Car: 1, Time: 40, Load: 2, First: 1, Must: of(3), May: of(1, 2, 3, 4, 63), On: of(2)}
	mustSqueeze(t, "all at one stop", x, l, 5, []api.Node{node(joined, 70)})
	// A state that differs in one thing alone, by one, among others that are alike: what is less of it is what all have.
	whole := node(api.State{At: 2, Car: 2, Time: 20, Load: 6, First: 2, Must: of(1, 2, 3), May: of(1, 2, 3), On: of(2, 4)}, 40, 1)
	for name, change := range parts() {
		for _, by := range []int{-1, 1, 1 << 40, -1 << 40, math.MaxInt, math.MinInt} {
			other := but(whole, func(n *api.Node) { change(&n.S, by) })
			for k := range 6 {
				l := []api.Node{whole, whole, whole, whole, whole, whole}
				l[k] = other
				mustSqueeze(t, fmt.Sprint(name, " differs by ", by), x, l, 5, squeezeAsSaid(x, l, 5))
			}
		}
	}
}

// someNodes are nodes of an instance as they come from Root, and some that are changed, at its stops and elsewhere.
func someNodes(s *lcg, x api.Instance, count int) []api.Node {
	var l []api.Node
	for range count {
		n := someNode(s, x)
		switch s.below(8) {
		case 0:
			n.S.At = s.below(len(x.Stops)+4) - 2
		case 1:
			n.S = api.State{At: s.below(len(x.Stops) + 1), Car: s.below(3), Time: s.below(9), Load: s.below(9), First: s.below(9), Must: of(s.below(9)), May: of(s.below(9)), On: of(s.below(9))}
		case 2:
			n.Cost = edges()[s.below(len(edges()))]
		}
		l = append(l, n)
	}
	return l
}

// P17.1: many lists, held against the chapter's words.
func TestManySqueezed(t *testing.T) {
	s := lcg(1)
	as, first, none := 0, 0, 0
	for turn := range 3000 {
		x := scattered(&s, turn%5, 1+s.below(20), 50+s.below(200))
		if turn%20 == 0 {
			x = wrongOnes()[s.below(8)]
		}
		if len(x.Stops) > 40 {
			x.Stops = x.Stops[:40]
		}
		l := someNodes(&s, x, s.below(40))
		for _, width := range []int{s.below(45), len(x.Stops), len(x.Stops) + 1, len(l) - 1, len(l), edges()[s.below(len(edges()))]} {
			want := squeezeAsSaid(x, l, width)
			mustSqueeze(t, "many", x, l, width, want)
			switch {
			case len(l) <= max(width, len(x.Stops)):
				as++
			case width > len(x.Stops):
				first++
			default:
				none++
			}
		}
	}
	if as < 3000 || first < 1000 || none < 1000 {
		t.Errorf("too few of a kind: sorted %d, with first ones %d, without %d", as, first, none)
	}
}

// P17.2: widths that nothing squeezes, and such that squeeze an early layer, a later one, and several. The least width is as many as there are stops.
func TestWidths(t *testing.T) {
	for _, test := range []struct {
		name         string
		x            api.Instance
		widths       []int
		layers       []int
		low, sure    int
		squeezedMore bool
	}{
		{"line", line(), []int{math.MinInt, -1 << 32, -1, 0, 1, 4, 5}, []int{1, 2, 4, 5, 5, 3}, 42, 3, false},
		{"line", line(), []int{7}, []int{1, 2, 4, 6, 6, 3}, 42, 3, false},
		{"line", line(), []int{8, 9, 23, api.MaxWidth, 1 << 32, 1<<32 + 1, math.MaxInt}, []int{1, 2, 4, 8, 7, 1}, 42, 6, false},
		{"sides", sides(), []int{6}, []int{1, 2, 4, 6, 5, 1}, 44, 3, false},
		{"three sides", threeSides(), []int{math.MinInt, -1, 0, 6, 7}, []int{1, 3, 7, 6, 6, 6, 6, 6, 6}, 38, 3, true},
		{"three sides", threeSides(), []int{8}, []int{1, 3, 7, 7, 7, 7, 7, 7, 7}, 38, 3, true},
		{"three sides", threeSides(), []int{13}, []int{1, 3, 7, 11, 12, 12, 12, 12, 12}, 52, 3, true},
		{"three sides", threeSides(), []int{16}, []int{1, 3, 7, 16, 13, 15, 14, 14, 14}, 53, 4, true},
		{"three sides", threeSides(), []int{21}, []int{1, 3, 7, 16, 21, 18, 20, 16, 1}, 60, 5, false},
		{"three sides", threeSides(), []int{22, 23, 97, math.MaxInt}, []int{1, 3, 7, 16, 21, 22, 17, 9, 1}, 60, 9, false},
		{"waiting", waiting(), []int{math.MinInt, 0, 7}, []int{1, 3, 6, 7, 7, 7, 7, 7, 7}, 80, 2, true},
		{"waiting", waiting(), []int{8}, []int{1, 3, 7, 8, 8, 8, 8, 8, 8}, 100, 2, true},
		{"waiting", waiting(), []int{9}, []int{1, 3, 9, 9, 9, 9, 9, 9, 9}, 100, 3, true},
		{"waiting", waiting(), []int{27}, []int{1, 3, 9, 27, 26, 27, 27, 27, 27}, 120, 4, true},
		{"waiting", waiting(), []int{45}, []int{1, 3, 9, 27, 45, 45, 45, 44, 45}, 120, 5, true},
		{"waiting", waiting(), []int{71}, []int{1, 3, 9, 27, 45, 70, 61, 15, 1}, 120, 5, false},
		{"waiting", waiting(), []int{72, 73, math.MaxInt}, []int{1, 3, 9, 27, 45, 72, 62, 12, 1}, 120, 9, false},
	} {
		root := followed(t, test.x)
		for _, width := range test.widths {
			mustBe(t, test.name, test.x, root, width, api.Inf, test.layers, test.low, test.sure)
		}
		squeezed := 0
		layers := buildAsSaid(test.x, root, test.widths[0], api.Inf).Layers
		for k := range layers[1:] {
			if len(nextAsSaid(test.x, layers[k], api.Inf)) > max(test.widths[0], len(test.x.Stops)) {
				squeezed++
			}
		}
		if squeezed > 1 != test.squeezedMore || squeezed > 0 != (test.sure < len(test.layers)) {
			t.Errorf("%s, width %d: %d layers are squeezed", test.name, test.widths[0], squeezed)
		}
	}
}

// P17.2: the layer just behind the first one is never squeezed, as each move leads to a stop of its own; the next one may be.
func TestTheSecondLayer(t *testing.T) {
	x := waiting()
	for _, n := range []api.Node{followed(t, x), loose(), but(loose(), func(n *api.Node) { n.S.Must = 0 })} {
		d := wide.Build(x, n, math.MinInt, api.Inf)
		if len(d.Layers) < 3 || d.Exact || d.Sure != 2 {
			t.Errorf("%d, Exact %t, Sure %d", widthsOf(d), d.Exact, d.Sure)
		}
	}
	mustBe(t, "to each stop", x, but(loose(), func(n *api.Node) { n.S.Must, n.Path = 0, nil }), 0, api.Inf, []int{1, 7, 7, 7, 7, 7, 7, 7, 7}, 10, 2)
}

// P17.2: nodes that are no more than the width stand in the order of their moves, not by what they cost.
func TestOrderOfLayers(t *testing.T) {
	x := with(line(), func(x *api.Instance) { x.Stops[1].X, x.Stops[3].X = 30, 31 })
	root := followed(t, x)
	d := wide.Build(x, root, 8, api.Inf)
	if len(d.Layers) < 2 || told(d.Layers[1]) != " 1:30[1] 2:20[2]" {
		t.Fatalf("%+v", d)
	}
	if a, b := bound.Of(x, d.Layers[1][0]), bound.Of(x, d.Layers[1][1]); a <= b {
		t.Errorf("in the end they cost %d and %d", a, b)
	}
	squeezed := wide.Build(x, root, 5, api.Inf)
	if squeezed.Exact || squeezed.Sure != 3 || !slices.EqualFunc(squeezed.Layers[:3], d.Layers[:3], allAlike) {
		t.Errorf("%+v", squeezed)
	}
	mustBuild(t, "nothing is squeezed", x, root, 8, api.Inf, buildAsSaid(x, root, 8, api.Inf))
	mustBuild(t, "squeezed", x, root, 5, api.Inf, buildAsSaid(x, root, 5, api.Inf))
}

// P17.2: what goes on costs less than up, as it was told, whatever ends; Low is up, if nothing ends for less.
func TestUp(t *testing.T) {
	x := line()
	root := followed(t, x)
	// Behind Root it costs 23 at least, or 33.
	for _, test := range []struct {
		up     int
		layers []int
		low    int
	}{
		{math.MinInt, []int{1}, math.MinInt}, {-api.Inf, []int{1}, -api.Inf}, {-1, []int{1}, -1}, {0, []int{1}, 0}, {1, []int{1}, 1}, {23, []int{1}, 23}, {24, []int{1, 1, 1}, 24},
		{43, []int{1, 2, 4, 5, 2}, 42}, {61, []int{1, 2, 4, 8, 6, 1}, 42},
		{api.Inf - 1, []int{1, 2, 4, 8, 7, 1}, 42}, {api.Inf, []int{1, 2, 4, 8, 7, 1}, 42}, {api.Inf + 1, []int{1, 2, 4, 8, 7, 1}, 42}, {math.MaxInt, []int{1, 2, 4, 8, 7, 1}, 42},
	} {
		mustBe(t, "nothing is squeezed", x, root, 8, test.up, test.layers, test.low, len(test.layers))
	}
	mustBe(t, "with fewer nodes nothing is squeezed", x, root, 5, 43, []int{1, 2, 4, 5, 2}, 42, 5)
	mustBe(t, "with some more it is", x, root, 5, 45, []int{1, 2, 4, 5, 3}, 42, 3)
	// The first layer has just n, whatever it costs at least.
	ended := followed(t, x, 1, 3, 2, 4)
	for _, up := range edges() {
		for _, width := range edges() {
			mustBe(t, "it can only be ended", x, ended, width, up, []int{1}, min(42, up), 1)
		}
	}
	for up := 20; up < 70; up++ {
		for _, width := range []int{0, 6, 7, 8} {
			mustBuild(t, fmt.Sprint("width ", width, ", up ", up), x, root, width, up, buildAsSaid(x, root, width, up))
		}
	}
}

// P17.2: Low, where none can be ended, and where what it costs is more than up, just that, and less.
func TestLow(t *testing.T) {
	x := line()
	root := followed(t, x)
	for _, test := range []struct{ up, low int }{{41, 41}, {42, 42}, {43, 42}, {44, 42}} {
		for _, width := range []int{5, 8} {
			if d := wide.Build(x, root, width, test.up); d.Low != test.low {
				t.Errorf("width %d, up %d: Low %d", width, test.up, d.Low)
			}
			mustBuild(t, "from Root", x, root, width, test.up, buildAsSaid(x, root, width, test.up))
		}
	}
	late := with(x, func(x *api.Instance) { x.Stops[0].Due = 20 })
	for _, up := range []int{math.MinInt, 0, 42, 10000, api.Inf, api.Inf + 1, math.MaxInt} {
		mustBuild(t, "none can be ended", late, root, 5, up, buildAsSaid(late, root, 5, up))
		if d := wide.Build(late, root, 5, up); d.Low != up {
			t.Errorf("none can be ended, up %d: Low %d", up, d.Low)
		}
	}
	neither := but(followed(t, x, 1, 3, 2), func(n *api.Node) { n.S.Time = 1000 })
	for _, up := range edges() {
		for _, width := range edges() {
			mustBe(t, "it neither goes on nor ends", x, neither, width, up, []int{1}, up, 1)
			mustBe(t, "noughts", x, api.Node{}, width, up, []int{1}, up, 1)
		}
	}
}

// P17.2: Low is the least of all that can be ended, on whichever layers they are.
func TestLowOfSeveralLayers(t *testing.T) {
	for _, test := range []struct {
		name  string
		x     api.Instance
		low   int
		ended []int
	}{
		{"the early one costs less", line(), 42, []int{4, 5}},
		{"the early one costs more", dearSides(), 44, []int{4, 5}},
		{"both cost the same", sides(), 44, []int{4, 5}},
		{"the middle one costs least", threeSides(), 60, []int{6, 7, 8}},
		{"there is just one", example(), 12, []int{2}},
	} {
		root := followed(t, test.x)
		want := buildAsSaid(test.x, root, 99, api.Inf)
		mustBuild(t, test.name, test.x, root, 99, api.Inf, want)
		var ended, costs []int
		for k, l := range want.Layers {
			if best, is := endedAsSaid(test.x, l); is {
				ended, costs = append(ended, k), append(costs, best.Cost)
			}
		}
		if !slices.Equal(ended, test.ended) || slices.Min(costs) != test.low || want.Low != test.low || !want.Exact {
			t.Errorf("%s: on %d they end, for %d; %+v", test.name, ended, costs, want)
		}
	}
	// On the first layer, and on others, too.
	x, both := line(), thrown(t)
	mustBe(t, "on the first layer", x, both, 9, api.Inf, []int{1, 2}, 71, 2)
	mustBe(t, "on the first layer, at what it costs", x, both, 9, 71, []int{1, 1}, 71, 2)
	mustBe(t, "on the first layer, at one less", x, both, 9, 70, []int{1}, 70, 1)
	mustBe(t, "on the first layer, at one more", x, both, 9, 72, []int{1, 1}, 71, 2)
	mustBe(t, "on all layers", waiting(), loose(), 99, api.Inf, widthsOf(buildAsSaid(waiting(), loose(), 99, api.Inf)), 10, buildAsSaid(waiting(), loose(), 99, api.Inf).Sure)
	mustBe(t, "what ends does not bound what goes on", waiting(), loose(), 7, 11, []int{1}, 10, 1)
	if d := wide.Build(waiting(), loose(), 7, 100); d.Low != 10 || len(d.Layers) < 4 {
		t.Errorf("what ends does not bound what goes on: %d, Low %d", widthsOf(d), d.Low)
	}
}

// P17.2: there are no more layers than moves, those of n's Path, whatever they are, among them.
func TestDepth(t *testing.T) {
	x := line()
	full := []int{1, 2, 4, 8, 7, 1}
	for moves := range 12 {
		n := node(state.Root(x), 0, make([]int, moves)...)
		for k := range n.Path {
			n.Path[k] = math.MaxInt - k
		}
		layers, low := full[:max(1, 6-moves)], 42
		if len(layers) < 5 {
			low = api.Inf
		}
		mustBe(t, fmt.Sprint("Root, behind ", moves), x, n, 8, api.Inf, layers, low, len(layers))
		// What is behind the last layer is not squeezed, as it is none.
		switch moves {
		case 0, 1:
			mustBe(t, "squeezed", x, n, 5, api.Inf, []int{1, 2, 4, 5, 5, 3}[:6-moves], 42, 3)
		case 2:
			mustBe(t, "the last layer is squeezed", x, n, 5, api.Inf, []int{1, 2, 4, 5}, api.Inf, 3)
		default:
			mustBe(t, "nothing is squeezed", x, n, 5, api.Inf, layers, api.Inf, len(layers))
		}
		ended := node(followed(t, x, 1, 3, 2, 4).S, 21, n.Path...)
		mustBe(t, fmt.Sprint("it ends, behind ", moves), x, ended, 8, api.Inf, []int{1}, 42, 1)
	}
	// A node at which little must have been seen could go on for longer than a plan may.
	y := waiting()
	for moves := range 12 {
		n := but(loose(), func(n *api.Node) { n.Path = make([]int, moves) })
		d := wide.Build(y, n, 7, api.Inf)
		if len(d.Layers) != max(1, 9-moves) || d.Low != 10 {
			t.Errorf("behind %d: %d, Low %d", moves, widthsOf(d), d.Low)
		}
		mustBuild(t, fmt.Sprint("loose, behind ", moves), y, n, 7, api.Inf, buildAsSaid(y, n, 7, api.Inf))
	}
	one := with(y, func(x *api.Instance) { x.Cars = 1 })
	if d := wide.Build(one, but(loose(), func(n *api.Node) { n.Path = nil }), 7, api.Inf); len(d.Layers) != 7 {
		t.Errorf("one car: %d", widthsOf(d))
	}
	long := node(state.Root(y), 0, make([]int, 1<<16)...)
	mustBe(t, "a long path", y, long, 7, api.Inf, []int{1}, api.Inf, 1)
}

// P17.2: moves come behind the path that n has, whatever it is; what was thrown together has none, and moves from there on come as they are.
func TestPaths(t *testing.T) {
	x := waiting()
	for _, path := range [][]int{nil, {}, {9}, {0, 0}, {math.MinInt, math.MaxInt}} {
		n := node(state.Root(x), 0, path...)
		d := wide.Build(x, n, 8, api.Inf)
		for _, m := range slices.Concat(d.Layers[:d.Sure]...) {
			if len(m.Path) < len(path) || !slices.Equal(m.Path[:len(path)], path) {
				t.Errorf("path %d: %+v", path, m)
			}
		}
		mustBuild(t, fmt.Sprint("path ", path), x, n, 8, api.Inf, buildAsSaid(x, n, 8, api.Inf))
	}
	d := wide.Build(x, followed(t, x), 8, api.Inf)
	if told(d.Layers[2]) != " 2:20[1 2] 1:30[] 2:40[] 3:30[] 4:40[] 5:50[] 6:60[]" {
		t.Errorf("%s", told(d.Layers[2]))
	}
	if told(d.Layers[3]) != " 3:30[1 2 3] 0:80[] 1:50[] 2:40[] 3:50[] 4:40[] 5:50[] 6:60[]" {
		t.Errorf("%s", told(d.Layers[3]))
	}
}

// P17.2: what n has cost counts, as num's Sum tells it: below 0 it counts as 0, and Inf stays Inf.
func TestCosts(t *testing.T) {
	x := line()
	root := followed(t, x)
	for _, width := range []int{5, 7, 8} {
		for _, test := range []struct{ cost, end int }{
			{0, 42}, {1, 43}, {7, 49}, {-1, 42}, {-42, 42}, {-1 << 32, 42}, {-api.Inf, 42}, {math.MinInt, 42}, {1 << 32, 1<<32 + 42}, {api.Inf - 100, api.Inf - 58}, {api.Inf - 43, api.Inf - 1},
		} {
			n := costing(root, test.cost)
			for _, up := range []int{api.Inf, test.end - 1, test.end, test.end + 1} {
				want := buildAsSaid(x, n, width, up)
				if want.Low != min(up, test.end) {
					t.Errorf("cost %d, up %d: as said Low is %d", test.cost, up, want.Low)
				}
				mustBuild(t, fmt.Sprint("cost ", test.cost), x, n, width, up, want)
			}
		}
		for _, cost := range []int{api.Inf - 42, api.Inf - 41, api.Inf - 21, api.Inf - 10, api.Inf - 1, api.Inf, api.Inf + 1, math.MaxInt} {
			n := costing(root, cost)
			for _, up := range []int{math.MinInt, 0, api.Inf - 1, api.Inf, api.Inf + 1, math.MaxInt} {
				want := buildAsSaid(x, n, width, up)
				if want.Low != min(up, api.Inf) {
					t.Errorf("cost %d, up %d: as said Low is %d", cost, up, want.Low)
				}
				mustBuild(t, fmt.Sprint("cost ", cost), x, n, width, up, want)
			}
		}
		mustBe(t, "at cost Inf it goes no further", x, costing(root, api.Inf), width, api.Inf, []int{1}, api.Inf, 1)
	}
	// n itself is told as it is.
	if d := wide.Build(x, costing(root, math.MinInt), 8, api.Inf); d.Layers[0][0].Cost != math.MinInt || d.Layers[1][0].Cost != 10 {
		t.Errorf("%+v", d)
	}
}

// P17.2: without pairs only Root can be ended, at no cost, and nothing goes on.
func TestWithoutPairs(t *testing.T) {
	x := noPairs()
	root := state.Root(x)
	for _, cost := range edges() {
		for _, up := range edges() {
			for _, width := range []int{math.MinInt, 0, 1, math.MaxInt} {
				mustBe(t, fmt.Sprint("Root, cost ", cost), x, node(root, cost), width, up, []int{1}, min(up, num.Sum(cost)), 1)
				mustBe(t, fmt.Sprint("Root, cost ", cost), x, node(root, cost, 7, 8), width, up, []int{1}, min(up, num.Sum(cost)), 1)
			}
		}
	}
	for name, change := range parts() {
		for _, by := range []int{1, -1} {
			n := node(root, 0)
			change(&n.S, by)
			mustBe(t, name+" is another one", x, n, 9, api.Inf, []int{1}, api.Inf, 1)
		}
	}
}

// P17.2, P1: nothing goes on, or is ended, where an instance may not be.
func TestWhatMayNotBe(t *testing.T) {
	x := example()
	l := []api.Node{followed(t, x), followed(t, x, 1), followed(t, x, 1, 2), {}, node(state.Root(noPairs()), 0)}
	for _, wrong := range wrongOnes() {
		for _, n := range l {
			for _, up := range []int{math.MinInt, 0, api.Inf, math.MaxInt} {
				for _, width := range []int{math.MinInt, 0, 1, math.MaxInt} {
					mustBe(t, "it may not be", wrong, n, width, up, []int{1}, up, 1)
				}
			}
		}
	}
}

// P17.2, P1: states with any numbers and sets.
func TestAnyStates(t *testing.T) {
	x := line()
	for _, path := range [][]int{nil, {1, 3}, {1, 3, 0}, {1, 3, 2, 4}} {
		whole := followed(t, x, path...)
		for _, m := range edges() {
			for name, change := range parts() {
				n := but(whole, func(n *api.Node) { change(&n.S, m); n.Cost = m })
				for _, up := range []int{0, 43, api.Inf, math.MaxInt} {
					for _, width := range []int{1, 6, math.MaxInt} {
						mustBuild(t, fmt.Sprint(name, " is another one, by ", m), x, n, width, up, buildAsSaid(x, n, width, up))
					}
				}
			}
		}
	}
}

// someNode is a node of an instance, as it comes from Root, or changed so that less must, and more may have been seen.
func someNode(s *lcg, x api.Instance) api.Node {
	n := someFollowed(s, x)
	n.Cost = s.below(9) - 2
	if s.below(3) == 0 {
		n.S.Must &^= of(s.below(9))
		n.S.May |= of(s.below(9), s.below(9), s.below(9))
		if s.below(2) == 0 {
			n.S.May |= of(1, 2, 3, 4, 5, 6, 7, 8) & (1<<len(x.Stops) - 1)
			n.S.On = 0
		}
	}
	if s.below(20) == 0 {
		n.Cost = edges()[s.below(len(edges()))]
	}
	return n
}

// someFollowed is a node of an instance behind some moves from Root, with what they cost.
func someFollowed(s *lcg, x api.Instance) api.Node {
	n := node(state.Root(x), 0)
	for range s.below(2*len(x.Stops) + 1) {
		if b := behind(x, n); len(b) > 0 {
			n = b[s.below(len(b))]
		}
	}
	return n
}

// P17.2: many nodes, held against the chapter's words.
func TestManyNodes(t *testing.T) {
	s := lcg(2)
	whole, squeezed, more := 0, 0, 0
	for turn := range 2000 {
		x := scattered(&s, turn%4, 1+s.below(20), 50+s.below(200))
		n := someNode(&s, x)
		if turn%2 == 0 {
			n = node(state.Root(x), s.below(5))
		}
		for _, up := range []int{s.below(100), s.below(200), api.Inf, edges()[s.below(len(edges()))]} {
			widest := slices.Max(widthsOf(buildAsSaid(x, n, math.MaxInt, up)))
			for _, width := range []int{0, 1 + s.below(widest), widest - 1, widest, edges()[s.below(len(edges()))]} {
				want := buildAsSaid(x, n, width, up)
				mustBuild(t, "many", x, n, width, up, want)
				switch {
				case want.Exact:
					whole++
				case want.Sure < len(want.Layers)-1:
					more++
				default:
					squeezed++
				}
			}
		}
	}
	if whole < 5000 || squeezed < 20 || more < 2000 {
		t.Errorf("too few of a kind: exact %d, the last one squeezed %d, an earlier one %d", whole, squeezed, more)
	}
}

// P17.2: some nodes of more pairs.
func TestMorePairs(t *testing.T) {
	s := lcg(3)
	whole, squeezed := 0, 0
	for turn := range 80 {
		x := scattered(&s, 4+turn%4, 1+s.below(40), 100+s.below(300))
		n := someNode(&s, x)
		if turn%2 == 0 {
			n = node(state.Root(x), 0)
		}
		for _, up := range []int{100 + s.below(200), api.Inf} {
			for _, width := range []int{0, 1 + s.below(40)} {
				want := buildAsSaid(x, n, width, up)
				mustBuild(t, "more pairs", x, n, width, up, want)
				if want.Exact {
					whole++
				} else {
					squeezed++
				}
			}
		}
	}
	if whole < 50 || squeezed < 100 {
		t.Errorf("too few of a kind: %d, %d", whole, squeezed)
	}
}

// way are moves to an end, the nodes behind each of them, the first one ahead of all, and what it costs in the end.
type way struct {
	nodes []api.Node
	cost  int
}

// waysFrom are all ways from a node to an end, one by one.
func waysFrom(x api.Instance, n api.Node) []way {
	var ways []way
	if far, is := state.End(x, n.S); is {
		ways = append(ways, way{[]api.Node{n}, num.Sum(n.Cost, far)})
	}
	for _, b := range behind(x, n) {
		for _, w := range waysFrom(x, b) {
			ways = append(ways, way{slices.Concat([]api.Node{n}, w.nodes), w.cost})
		}
	}
	return ways
}

// mustBound asks of a diagram of n that no way costs less than Low, nor is lost on any layer, if it costs less than up; and that some way costs just Low, if it is exact.
func mustBound(t *testing.T, x api.Instance, n api.Node, width, up int, ways []way) api.Diagram {
	t.Helper()
	d := wide.Build(x, n, width, up)
	reached := d.Low == up
	for _, w := range ways {
		reached = reached || w.cost == d.Low
		if w.cost < d.Low {
			t.Errorf("a way costs %d, Low is %d: %s; width %d, up %d, %+v, %+v", w.cost, d.Low, told(w.nodes), width, up, n, x)
		}
		for k := range w.nodes {
			if w.cost < up && !covered(d, k, w.nodes[k]) {
				t.Errorf("nothing covers %+v on layer %d of %d; width %d, up %d, %+v, %+v", w.nodes[k], k, widthsOf(d), width, up, n, x)
			}
		}
	}
	if d.Low > up || d.Exact && !reached {
		t.Errorf("no way costs %d; width %d, up %d, %+v, %+v", d.Low, width, up, n, x)
	}
	return d
}

// covered tells whether a layer has a node from which all can follow that can follow n, and that has cost no more; on sure layers it is of n's state.
func covered(d api.Diagram, layer int, n api.Node) bool {
	return layer < len(d.Layers) && slices.ContainsFunc(d.Layers[layer], func(m api.Node) bool {
		return relax.Covers(m.S, n.S) && m.Cost <= n.Cost && (m.S == n.S || layer >= d.Sure)
	})
}

// mustBeSure asks that the layers ahead of the first one that was squeezed hold nodes that go on from n by their paths, and cost that.
func mustBeSure(t *testing.T, x api.Instance, n api.Node, d api.Diagram) {
	t.Helper()
	for k, l := range d.Layers[:d.Sure] {
		for _, m := range l {
			if len(m.Path) != len(n.Path)+k || !slices.Equal(m.Path[:len(n.Path)], n.Path) {
				t.Fatalf("on layer %d there is %+v behind %+v", k, m, n)
			}
			s, cost := n.S, n.Cost
			for _, j := range m.Path[len(n.Path):] {
				there, far, is := state.Move(x, s, j)
				if !is {
					t.Fatalf("from %+v it can't go on by %d: %+v", s, j, m)
				}
				s, cost = there, num.Sum(cost, far)
			}
			if s != m.S || cost != m.Cost {
				t.Fatalf("behind its path it is %+v, for %d: %+v", s, cost, m)
			}
		}
	}
}

// mustBeNarrow asks that no layer but the first one has more nodes than the width, and that this one has just n.
func mustBeNarrow(t *testing.T, x api.Instance, n api.Node, width int, d api.Diagram) {
	t.Helper()
	for k, l := range d.Layers {
		if len(l) == 0 || k > 0 && len(l) > max(width, len(x.Stops)) {
			t.Fatalf("width %d: %d; of %+v", width, widthsOf(d), x)
		}
	}
	if len(d.Layers) == 0 || len(d.Layers[0]) != 1 || !alike(d.Layers[0][0], n) {
		t.Fatalf("the first layer is not just %+v: %+v", n, d)
	}
}

// P17.3, P4: with few pairs, from Root and from nodes behind some moves, against all ways one by one.
func TestNoPlanCostsLess(t *testing.T) {
	s := lcg(4)
	kinds := map[string]int{}
	for turn := range 500 {
		x := scattered(&s, turn%4, 1+s.below(25), 20+s.below(150))
		for _, n := range []api.Node{followed(t, x), someFollowed(&s, x), someFollowed(&s, x)} {
			ways := waysFrom(x, n)
			least := api.Inf
			for _, w := range ways {
				least = min(least, w.cost)
			}
			for _, up := range []int{api.Inf, least, min(least+1, api.Inf), s.below(100), math.MaxInt} {
				for _, width := range []int{0, 1 + s.below(20), math.MaxInt} {
					d := mustBound(t, x, n, width, up, ways)
					mustBeSure(t, x, n, d)
					mustBeNarrow(t, x, n, width, d)
					switch {
					case d.Exact && d.Low < up:
						kinds["exact, and found"]++
					case d.Exact:
						kinds["exact, and up"]++
					case d.Low < min(least, up):
						kinds["squeezed, and less"]++
					default:
						kinds["squeezed, and just that"]++
					}
				}
			}
		}
	}
	for _, kind := range []string{"exact, and found", "exact, and up", "squeezed, and less", "squeezed, and just that"} {
		if kinds[kind] < 200 {
			t.Errorf("too few of a kind: %d, %s", kinds[kind], kind)
		}
	}
}

// P17.3: where it is exact Low is what package exact finds, if that is less than up.
func TestExactLow(t *testing.T) {
	s := lcg(5)
	found, none := 0, 0
	for turn := range 600 {
		x := scattered(&s, turn%4, 1+s.below(25), 20+s.below(150))
		n := someFollowed(&s, x)
		if turn%2 == 0 {
			n = followed(t, x)
		}
		for _, up := range []int{api.Inf, s.below(150)} {
			best, is, all, _ := exact.Best(x, n, up, math.MaxInt)
			d := wide.Build(x, n, math.MaxInt, up)
			least := up
			if is {
				found++
				least = best.Cost
			} else {
				none++
			}
			if !all || !d.Exact || d.Low != least {
				t.Errorf("Low %d, exact %t; exact finds %+v, %t; of %+v, up %d, %+v", d.Low, d.Exact, best, is, n, up, x)
			}
			for _, width := range []int{0, 9, 15} {
				if d := wide.Build(x, n, width, up); d.Low > least || d.Exact && d.Low != least {
					t.Errorf("width %d: Low %d, exact %t; exact finds %+v, %t; of %+v, up %d, %+v", width, d.Low, d.Exact, best, is, n, up, x)
				}
			}
		}
	}
	if found < 300 || none < 200 {
		t.Errorf("too few of a kind: %d, %d", found, none)
	}
}

// P17.3, P4: from two nodes that were thrown together no way from either costs less than Low.
func TestFromThrownTogether(t *testing.T) {
	s := lcg(6)
	count, less := 0, 0
	for turn := range 600 {
		x := scattered(&s, 2+turn%2, 1+s.below(25), 50+s.below(150))
		a := someFollowed(&s, x)
		b := someFollowed(&s, x)
		for range 20 {
			if a.S.At != b.S.At || len(a.Path) != len(b.Path) || a.S == b.S {
				b = someFollowed(&s, x)
			}
		}
		joined, is := relax.Join(a.S, b.S)
		if !is || len(a.Path) != len(b.Path) || a.S == b.S {
			continue
		}
		count++
		n := node(joined, min(a.Cost, b.Cost), a.Path...)
		for _, up := range []int{api.Inf, 50 + s.below(100)} {
			for _, width := range []int{0, 9, math.MaxInt} {
				d := wide.Build(x, n, width, up)
				for _, w := range slices.Concat(waysFrom(x, a), waysFrom(x, b)) {
					if w.cost < d.Low {
						t.Errorf("a way costs %d, Low is %d: %s; width %d, up %d, %+v, %+v", w.cost, d.Low, told(w.nodes), width, up, n, x)
					}
					if d.Low < up && w.cost > d.Low {
						less++
					}
				}
			}
		}
	}
	if count < 100 || less < 100 {
		t.Errorf("too few of a kind: %d, %d", count, less)
	}
}

// P17.3, P4: from Root no plan that is found elsewhere costs less; what is exact is a plan that may be, and costs that.
func TestPlans(t *testing.T) {
	s := lcg(7)
	plans := 0
	for turn := range 400 {
		x := scattered(&s, turn%4, 1+s.below(30), 100+s.below(400))
		d := wide.Build(x, followed(t, x), math.MaxInt, api.Inf)
		for _, n := range slices.Concat(d.Layers...) {
			far, is := state.End(x, n.S)
			if !is {
				continue
			}
			plans++
			p, err := tour.Split(n.Path)
			if cost, wrong := plan.Cost(x, p); err != api.OK || wrong != api.OK || cost != num.Sum(n.Cost, far) || cost < d.Low {
				t.Errorf("%+v: Split: %d; it costs %d, %d, Low is %d; of %+v", n, err, cost, wrong, d.Low, x)
			}
		}
	}
	if plans < 500 {
		t.Errorf("too few of a kind: %d", plans)
	}
}

// P17.3: whatever the width, no layer has more nodes; there are at most as many layers as moves, and one.
func TestNoLayerIsWider(t *testing.T) {
	s := lcg(8)
	full, deep := 0, 0
	for turn := range 72 {
		x := scattered(&s, turn%9, 1+s.below(40), 100+s.below(900))
		root := followed(t, x)
		for _, width := range []int{math.MinInt, 0, 2 * x.Pairs, 2*x.Pairs + 1, 2*x.Pairs + 2, 30} {
			d := wide.Build(x, root, width, api.Inf)
			mustBeNarrow(t, x, root, width, d)
			mustBeSure(t, x, root, d)
			if len(d.Layers) > 1+wide.Deep(x) {
				t.Errorf("%d; of at most %d moves", widthsOf(d), wide.Deep(x))
			}
			if len(d.Layers) == 1+wide.Deep(x) {
				deep++
			}
			if x.Pairs > 0 && slices.Max(widthsOf(d)) == max(width, len(x.Stops)) {
				full++
			}
		}
	}
	if full < 60 || deep < 60 {
		t.Errorf("too few of a kind: %d, %d", full, deep)
	}
}

// P1: with as many pairs and cars as there may be it ends: by the width, by a bound, or by short times.
func TestManyPairs(t *testing.T) {
	s := lcg(9)
	x := scattered(&s, api.MaxPairs, 100, 1000)
	x.Cars, x.Room = api.MaxCars, api.MaxAmount
	for i := range x.Stops {
		x.Stops[i].Ready, x.Stops[i].Due = 0, api.MaxTime
	}
	root := followed(t, x)
	for _, width := range []int{math.MinInt, 34, 40} {
		d := wide.Build(x, root, width, api.Inf)
		mustBeNarrow(t, x, root, width, d)
		mustBeSure(t, x, root, d)
		if len(d.Layers) != 40 || d.Exact || d.Sure != 2 || d.Low <= 0 || d.Low >= api.Inf {
			t.Errorf("width %d: %d, Low %d, Sure %d", width, widthsOf(d), d.Low, d.Sure)
		}
	}
	least := bound.At(x, root.S)
	mustBe(t, "bounded", x, root, math.MaxInt, least, []int{1}, least, 1)
	for i := range x.Stops {
		x.Stops[i].Due = 0
	}
	if d := wide.Build(x, root, math.MaxInt, api.Inf); !d.Exact || d.Low != api.Inf {
		t.Errorf("short times: %+v", d)
	}
}

// R3: what is answered stays as it is when all that was handed in is changed.
func TestAnswersStay(t *testing.T) {
	x := line()
	for _, n := range []api.Node{followed(t, x), followed(t, x, 1, 3), followed(t, x, 1, 3, 2, 4), thrown(t)} {
		for _, width := range []int{5, 9} {
			n, given := but(n, func(n *api.Node) {}), with(x, func(x *api.Instance) {})
			was := buildAsSaid(x, but(n, func(n *api.Node) {}), width, api.Inf)
			d := wide.Build(given, n, width, api.Inf)
			spoil([]api.Node{n})
			clear(given.Stops)
			if !sameDiagram(d, was) {
				t.Errorf("it is now %+v, it was %+v", d, was)
			}
		}
	}
	for _, width := range []int{5, 6, 9} {
		l, given := eight(), with(x, func(x *api.Instance) {})
		few := wide.Squeeze(given, l, width)
		spoil(l)
		clear(given.Stops)
		if !allAlike(few, squeezeAsSaid(x, eight(), width)) {
			t.Errorf("it is now %s", told(few))
		}
	}
}

// R3: nodes whose paths are one list get paths of their own; nothing is written behind a path that has room there.
func TestPathsWithRoom(t *testing.T) {
	x := line()
	row := []int{1, 3, 5, 6, 7, 8, 9}
	var l []api.Node
	for k := range 7 {
		n := seen(3, k)
		n.Path = row[:k]
		l = append(l, n)
	}
	for _, width := range []int{5, 6, 7} {
		few := wide.Squeeze(x, l, width)
		mustOwn(t, fmt.Sprint("width ", width), [][]api.Node{few}, [][]api.Node{squeezeAsSaid(x, l, width)})
	}
	n := node(followed(t, x, 1, 3).S, 11)
	n.Path = row[:2]
	first, second := wide.Build(x, n, 5, api.Inf), wide.Build(x, n, 5, api.Inf)
	want := buildAsSaid(x, but(n, func(n *api.Node) {}), 5, api.Inf)
	for _, l := range first.Layers {
		spoil(l)
	}
	if !sameDiagram(second, want) {
		t.Errorf("%+v", second)
	}
	if !slices.Equal(row, []int{1, 3, 5, 6, 7, 8, 9}) {
		t.Errorf("the paths' list is now %d", row)
	}
}

// R5: nothing hangs on what was asked before.
func TestAskedAgain(t *testing.T) {
	s := lcg(10)
	type asked struct {
		x         api.Instance
		n         api.Node
		l         []api.Node
		width, up int
	}
	var all []asked
	for turn := range 40 {
		x := scattered(&s, 1+turn%3, 10, 200)
		all = append(all, asked{x, someNode(&s, x), someNodes(&s, x, 20), 1 + s.below(30), 10 + s.below(100)})
	}
	for range 3 {
		for _, a := range all {
			mustBuild(t, "again", a.x, a.n, a.width, a.up, buildAsSaid(a.x, a.n, a.width, a.up))
			mustSqueeze(t, "again", a.x, a.l, a.width, squeezeAsSaid(a.x, a.l, a.width))
			mustBeDeep(t, "again", a.x, deepAsSaid(a.x))
		}
	}
	// Of one instance other stops are asked for, at the same place in memory.
	x := line()
	root := followed(t, x)
	mustBe(t, "ahead", x, root, 8, api.Inf, []int{1, 2, 4, 8, 7, 1}, 42, 6)
	for i := range x.Stops {
		x.Stops[i].X *= 2
	}
	mustBe(t, "twice as far", x, root, 8, api.Inf, []int{1, 2, 4, 8, 7, 1}, 84, 6)
	x.Stops[0].Due = -1
	mustBeDeep(t, "it may not be", x, 0)
}

// The tests' own parts are made as they should be.
func TestWhatTheTestsAreMadeOf(t *testing.T) {
	for _, x := range []api.Instance{example(), line(), waiting(), sides(), dearSides(), threeSides(), noPairs()} {
		if !inst.May(x) {
			t.Errorf("it may not be: %+v", x)
		}
	}
	for _, x := range wrongOnes() {
		if inst.May(x) {
			t.Errorf("it may be: %+v", x)
		}
	}
	if of() != 0 || of(1, 3) != 10 || len(parts()) != 8 {
		t.Error("of, or parts")
	}
	a := api.State{At: 4, Car: 1, Time: 5, Must: of(1, 2), May: of(1, 2)}
	b := api.State{At: 4, Car: 1, Time: 4, Must: of(1, 3), May: of(1, 3)}
	if s := joinAsSaid([]api.State{a, b}); s != (api.State{At: 4, Car: 1, Time: 4, Must: of(1), May: of(1, 2, 3)}) {
		t.Errorf("joinAsSaid: %+v", s)
	}
	if deepAsSaid(api.Instance{}) != 0 || deepAsSaid(line()) != 5 {
		t.Error("deepAsSaid")
	}
	if d := buildAsSaid(example(), followed(t, example()), 1, api.Inf); !slices.Equal(widthsOf(d), []int{1, 1, 1}) || d.Low != 12 || !d.Exact || d.Sure != 3 {
		t.Errorf("buildAsSaid: %+v", d)
	}
	if text := told(squeezeAsSaid(noPairs(), []api.Node{{Cost: 3, Path: []int{1}}, {Cost: 1}, {S: api.State{At: 1}, Cost: 2}}, 1)); text != " 0:1[]" {
		t.Error("squeezeAsSaid:" + text)
	}
	ways := waysFrom(line(), followed(t, line()))
	least := slices.MinFunc(ways, func(a, b way) int { return a.cost - b.cost })
	if len(ways) != 7 || least.cost != 42 || len(least.nodes) != 5 {
		t.Errorf("waysFrom: %+v", ways)
	}
}
