package bound_test

import (
	"fmt"
	"math"
	"math/bits"
	"reflect"
	"slices"
	"testing"

	"haulier/api"
	"haulier/bound"
	"haulier/inst"
	"haulier/plan"
	"haulier/plane"
	"haulier/relax"
	"haulier/state"
	"haulier/tour"
)

const all = math.MaxUint64

// lcg is a row of numbers that are spread out, the same in each run.
type lcg uint64

func (s *lcg) below(n int) int {
	*s = *s*6364136223846793005 + 1442695040888963407
	// The low bits of such a row repeat soon: only the high ones are taken.
	return int(uint64(*s) >> 33 % uint64(n))
}

// set is any one: sparse, full, or between.
func (s *lcg) set() uint64 {
	spread := func() uint64 { return uint64(s.below(1<<31))<<33 ^ uint64(s.below(1<<31))<<16 ^ uint64(s.below(1<<31)) }
	switch s.below(4) {
	case 0:
		return spread() & spread()
	case 1:
		return spread() | spread() | spread()
	}
	return spread()
}

// point is where a stop is: its X and its Y.
type point [2]int

// through is an instance whose stops are at these places, the yard's first; there must be an odd number of them. No time is too short, and there is room for all.
func through(places ...point) api.Instance {
	pairs := len(places) / 2
	x := api.Instance{Pairs: pairs, Cars: 3, Room: 1000}
	for i, p := range places {
		s := api.Stop{X: p[0], Y: p[1], Ready: 3, Due: api.MaxTime}
		switch {
		case i == 0:
		case i <= pairs:
			s.Demand, s.Service = 10+i, 2
		default:
			s.Demand, s.Service = -(10 + i - pairs), 1
		}
		x.Stops = append(x.Stops, s)
	}
	return x
}

// example is chapter 5's: one pair.
func example() api.Instance {
	return api.Instance{Pairs: 1, Cars: 1, Room: 5, Stops: []api.Stop{
		{X: 0, Y: 0, Demand: 0, Ready: 0, Due: 100, Service: 0},
		{X: 3, Y: 0, Demand: 2, Ready: 0, Due: 50, Service: 1},
		{X: 0, Y: 4, Demand: -2, Ready: 0, Due: 90, Service: 1},
	}}
}

// three are three pairs on a line; it is 7, 7, 11, 20, 35, 60 and 100 from the nearest one: of two stops it is the same only of the yard and 1.
func three() api.Instance {
	return through(point{0, 0}, point{7, 0}, point{18, 0}, point{38, 0}, point{73, 0}, point{133, 0}, point{233, 0})
}

// doubling are six pairs on a line, each stop as far behind the one ahead as that is from the yard, and one more: the least to stop i is 2^(i-1), and 1 to the yard, so that no two sets of stops cost the same.
func doubling() api.Instance {
	var places []point
	for i := range 13 {
		places = append(places, point{1<<i - 1, 77})
	}
	return through(places...)
}

// sixteen are 16 pairs on a line, 100 from stop to stop.
func sixteen() api.Instance {
	var places []point
	for i := range 33 {
		places = append(places, point{100 * i, 0})
	}
	return through(places...)
}

// corners are 16 pairs, with stops in two corners: the least to each is 0, but for the yard, which is alone, as far off as can be.
func corners() api.Instance {
	places := []point{{10000, 10000}}
	for i := range 32 {
		places = append(places, point{0, 5000 * (i % 2)})
	}
	places[1] = point{0, 0}
	return through(places...)
}

func noPairs() api.Instance {
	return api.Instance{Cars: 2, Room: 1, Stops: []api.Stop{{X: 4, Y: 5, Ready: 6, Due: 7}}}
}

// scattered is an instance of so many pairs, on so many places a side, whose times are as short.
func scattered(s *lcg, pairs, side, due int) api.Instance {
	x := api.Instance{Pairs: pairs, Cars: 1 + s.below(4), Room: 5 + s.below(10)}
	for i := range 2*pairs + 1 {
		p := api.Stop{X: s.below(side), Y: s.below(side), Ready: s.below(1 + due/2), Service: s.below(3)}
		p.Due = p.Ready + s.below(1+due)
		switch {
		case i == 0:
			p.Service, p.Ready = 0, p.Ready/4
			p.Due += due
		case i <= pairs:
			p.Demand = 1 + s.below(5)
		default:
			p.Due += due / 2
			p.Demand = -x.Stops[i-pairs].Demand
		}
		x.Stops = append(x.Stops, p)
	}
	return x
}

func clone(x api.Instance) api.Instance {
	x.Stops = slices.Clone(x.Stops)
	return x
}

// with is x after a change.
func with(x api.Instance, change func(x *api.Instance)) api.Instance {
	x = clone(x)
	change(&x)
	return x
}

// but is s after a change.
func but(s api.State, change func(s *api.State)) api.State {
	change(&s)
	return s
}

// of is a set, made by hand.
func of(l ...int) uint64 {
	var s uint64
	for _, i := range l {
		s |= 1 << i
	}
	return s
}

// in tells whether i is in a set.
func in(s uint64, i int) bool { return s>>i&1 == 1 }

// allOf is all stops from 1 to 2n.
func allOf(x api.Instance) uint64 { return 1<<(2*x.Pairs+1) - 2 }

// edges are numbers at which something could change, the least and the greatest that there are among them.
func edges() []int {
	return []int{
		math.MinInt, math.MinInt + 1, -1 << 62, -1 << 60, -1<<32 - 1, -1 << 31, -256, -2, -1,
		0, 1, 2, 3, 5, 8, 9, 32, 33, 63, 64, 1000, 1001, 1 << 20, 1 << 30, 1<<30 + 1, 1 << 32, 1<<32 + 1, 1 << 60, 1 << 62, math.MaxInt - 1, math.MaxInt,
	}
}

// asSaid is what At answers by the chapter's words, of an instance that may be.
func asSaid(x api.Instance, s api.State) int {
	if x.Pairs == 0 {
		return 0
	}
	sum := 0
	for i, to := range x.Stops {
		if i != 0 && in(s.May, i) {
			continue
		}
		nearest := math.MaxInt
		for k, from := range x.Stops {
			if k != i {
				nearest = min(nearest, plane.Far(from, to))
			}
		}
		sum += nearest
	}
	return sum
}

// mustBe asks for just this answer of At, the same for a node that has cost nothing, as much more for one that has cost something, and that the instance stays as it was.
func mustBe(t *testing.T, what string, x api.Instance, s api.State, want int) {
	t.Helper()
	was := clone(x)
	if got := bound.At(x, s); got != want {
		t.Errorf("%s: At: %d, want %d; at %+v of %+v", what, got, want, s, x)
	}
	if got := bound.Of(x, api.Node{S: s}); got != want {
		t.Errorf("%s: Of: %d, want %d; at %+v of %+v", what, got, want, s, x)
	}
	if got := bound.Of(x, api.Node{S: s, Cost: 5, Path: []int{1, 2}}); got != want+5 {
		t.Errorf("%s: Of, with a cost of 5: %d, want %d; at %+v of %+v", what, got, want+5, s, x)
	}
	if !reflect.DeepEqual(x, was) {
		t.Errorf("%s: it is now %+v, it was %+v", what, x, was)
	}
}

// mustCost asks for just this answer of Of, and that what is handed in stays as it was.
func mustCost(t *testing.T, what string, x api.Instance, n api.Node, want int) {
	t.Helper()
	wasX, wasPath := clone(x), slices.Clone(n.Path)
	if got := bound.Of(x, n); got != want {
		t.Errorf("%s: Of: %d, want %d; of %+v, which costs %d at least, of %+v", what, got, want, n, bound.At(x, n.S), x)
	}
	if !reflect.DeepEqual(x, wasX) || !slices.Equal(n.Path, wasPath) {
		t.Errorf("%s: it is now %+v and %d, it was %+v and %d", what, x, n.Path, wasX, wasPath)
	}
}

// P12.1: the example of the chapter and of the whole.
func TestExample(t *testing.T) {
	x := example()
	mustBe(t, "Root", x, state.Root(x), 3+3+4)
	mustBe(t, "noughts", x, api.State{}, 3+3+4)
	mustBe(t, "1 was seen", x, api.State{At: 1, Car: 1, Time: 4, Load: 2, First: 1, Must: of(1), May: of(1), On: of(1)}, 3+4)
	mustBe(t, "2 was seen", x, api.State{May: of(2)}, 3+3)
	mustBe(t, "both were seen", x, api.State{At: 2, Car: 1, Time: 10, First: 1, Must: of(1, 2), May: of(1, 2)}, 3)
	mustCost(t, "Root", x, api.Node{S: state.Root(x)}, 10)
	mustCost(t, "1", x, api.Node{S: api.State{May: of(1)}, Cost: 3, Path: []int{1}}, 10)
	mustCost(t, "1 2", x, api.Node{S: api.State{May: of(1, 2)}, Cost: 8, Path: []int{1, 2}}, 11)
}

// P12.1: three pairs, written out: each stop alone in May, alone out of it, and some.
func TestWrittenOut(t *testing.T) {
	x := three()
	near := []int{7, 7, 11, 20, 35, 60, 100}
	mustBe(t, "none", x, api.State{}, 240)
	mustBe(t, "Root", x, state.Root(x), 240)
	mustBe(t, "all", x, api.State{May: of(1, 2, 3, 4, 5, 6)}, 7)
	for i := 1; i <= 6; i++ {
		mustBe(t, fmt.Sprint(i, " alone"), x, api.State{May: of(i)}, 240-near[i])
		mustBe(t, fmt.Sprint("all but ", i), x, api.State{May: of(1, 2, 3, 4, 5, 6) &^ of(i)}, 7+near[i])
	}
	mustBe(t, "what is taken in", x, api.State{May: of(1, 2, 3)}, 7+35+60+100)
	mustBe(t, "what is brought", x, api.State{May: of(4, 5, 6)}, 7+7+11+20)
	mustBe(t, "the first pair", x, api.State{May: of(1, 4)}, 7+11+20+60+100)
	mustBe(t, "the last pair", x, api.State{May: of(3, 6)}, 7+7+11+35+60)
	mustBe(t, "two pairs", x, api.State{May: of(1, 2, 4, 5)}, 7+20+100)
	mustBe(t, "a line of two", through(point{0, 0}, point{10, 0}, point{20, 0}, point{11, 0}, point{21, 0}), api.State{}, 10+1+1+1+1)
	mustBe(t, "not along an axis", through(point{0, 0}, point{3, 4}, point{4, 5}), api.State{}, 5+2+2)
}

// P12.1: all sets of the stops of six pairs, no two of which cost the same.
func TestEachSet(t *testing.T) {
	x := doubling()
	for seen := range 1 << 12 {
		may := uint64(seen) << 1
		left := 1<<12 - 1 - seen
		mustBe(t, fmt.Sprintf("%b was seen", may), x, api.State{May: may}, 1+left)
	}
}

// P12.1: as many pairs as there may be; each stop alone in May, and alone out of it.
func TestSixteenPairs(t *testing.T) {
	x := sixteen()
	mustBe(t, "none", x, api.State{}, 3300)
	mustBe(t, "Root", x, state.Root(x), 3300)
	mustBe(t, "all", x, api.State{May: 1<<33 - 2}, 100)
	for i := 1; i <= 32; i++ {
		mustBe(t, fmt.Sprint(i, " alone"), x, api.State{May: of(i)}, 3200)
		mustBe(t, fmt.Sprint("all but ", i), x, api.State{May: (1<<33 - 2) &^ of(i)}, 200)
		mustBe(t, fmt.Sprint("up to ", i), x, api.State{May: 1<<(i+1) - 2}, 3300-100*i)
		// One stop far from all others: it alone costs more.
		y := with(x, func(x *api.Instance) { x.Stops[i].Y = 9000 })
		alone := asSaid(y, api.State{May: allOf(y) &^ of(i)}) - asSaid(y, api.State{May: allOf(y)})
		if alone < 9000 {
			t.Fatalf("stop %d is not far: %d", i, alone)
		}
		mustBe(t, fmt.Sprint(i, " is far"), y, api.State{}, asSaid(y, api.State{}))
		mustBe(t, fmt.Sprint(i, " is far, alone out"), y, api.State{May: allOf(y) &^ of(i)}, asSaid(y, api.State{May: allOf(y)})+alone)
		mustBe(t, fmt.Sprint(i, " is far, alone in"), y, api.State{May: of(i)}, asSaid(y, api.State{})-alone)
	}
	y := corners()
	mustBe(t, "the yard alone is far", y, api.State{}, 11181)
	mustBe(t, "the yard alone is far, all seen", y, api.State{May: allOf(y)}, 11181)
}

// P12.1: the most that it can cost: stops two by two, as far as can be from all others.
func TestFarOff(t *testing.T) {
	x := through(point{0, 0}, point{10000, 10000}, point{10000, 10000})
	mustBe(t, "a pair far off", x, api.State{}, 14143)
	x = through(point{0, 0}, point{10000, 10000}, point{0, 10000})
	mustBe(t, "each far off", x, api.State{}, 10000+10000+10000)
	var places []point
	for i := range 33 {
		places = append(places, point{10000 * (i % 6) / 5, 10000 * (i / 6) / 5})
	}
	mustBe(t, "33 as far off as can be", through(places...), api.State{}, 33*2000)
}

// P12.1: from 0 to 16 pairs, far from each other and on few places; held against the chapter's words.
func TestMany(t *testing.T) {
	s := lcg(1)
	noughts := 0
	for pairs := range 17 {
		for _, side := range []int{1, 2, 5, 30, 1000, 10001} {
			for range 10 {
				x := scattered(&s, pairs, side, 100)
				for range 10 {
					y := anyState(&s)
					want := asSaid(x, y)
					mustBe(t, fmt.Sprint(pairs, " pairs on ", side, " places a side"), x, y, want)
					if want == 0 {
						noughts++
					}
				}
			}
		}
	}
	if noughts < 500 || noughts > 5000 {
		t.Errorf("too few of a kind: %d of 10200 are noughts", noughts)
	}
}

// anyState is one of all kinds of numbers and sets.
func anyState(s *lcg) api.State {
	number := func() int {
		if s.below(3) > 0 {
			return s.below(9) - 4
		}
		return edges()[s.below(len(edges()))]
	}
	return api.State{At: number(), Car: number(), Time: number(), Load: number(), First: number(), Must: s.set(), May: s.set(), On: s.set()}
}

// P12.1: 0, and numbers above 2n, change nothing in May.
func TestMayHasOtherNumbers(t *testing.T) {
	for _, x := range []api.Instance{example(), three(), doubling(), sixteen()} {
		whole := allOf(x)
		for _, may := range []uint64{0, of(1), of(2), of(2 * x.Pairs), whole, whole &^ of(1), whole &^ of(2*x.Pairs)} {
			want := asSaid(x, api.State{May: may})
			for i := range 64 {
				if !in(whole, i) {
					mustBe(t, fmt.Sprint("and ", i), x, api.State{May: may | of(i)}, want)
				}
			}
			mustBe(t, "and all others", x, api.State{May: may | all&^whole}, want)
		}
		mustBe(t, "all that there are", x, api.State{May: all}, asSaid(x, api.State{May: whole}))
		mustBe(t, "all but its own", x, api.State{May: all &^ whole}, asSaid(x, api.State{}))
	}
	mustBe(t, "one pair, all others", example(), api.State{May: all &^ of(1, 2)}, 10)
	mustBe(t, "one pair, all", example(), api.State{May: all}, 3)
	mustBe(t, "16 pairs, all", sixteen(), api.State{May: all}, 100)
	mustBe(t, "16 pairs, all others", sixteen(), api.State{May: all &^ (1<<33 - 2)}, 3300)
}

// P12.1: nothing of a state but its May changes anything.
func TestOnlyMayCounts(t *testing.T) {
	numbers := []func(s *api.State) *int{
		func(s *api.State) *int { return &s.At },
		func(s *api.State) *int { return &s.Car },
		func(s *api.State) *int { return &s.Time },
		func(s *api.State) *int { return &s.Load },
		func(s *api.State) *int { return &s.First },
	}
	sets := []uint64{0, of(0), of(1), of(2), of(3, 4), of(63), allOf(three()), all &^ of(1), all}
	for _, x := range []api.Instance{example(), three(), sixteen()} {
		for _, may := range []uint64{0, of(1), of(2), of(1, 2), allOf(x) &^ of(1), allOf(x)} {
			want := asSaid(x, api.State{May: may})
			for _, y := range []api.State{{May: may}, but(state.Root(x), func(s *api.State) { s.May = may }), {At: 1, Car: 1, Time: 4, Load: 2, First: 1, Must: of(1), May: may, On: of(1)}} {
				mustBe(t, "as it is", x, y, want)
				for i, number := range numbers {
					for _, n := range edges() {
						mustBe(t, fmt.Sprint("number ", i, " is ", n), x, but(y, func(s *api.State) { *number(s) = n }), want)
					}
				}
				for _, set := range sets {
					mustBe(t, fmt.Sprintf("Must is %b", set), x, but(y, func(s *api.State) { s.Must = set }), want)
					mustBe(t, fmt.Sprintf("On is %b", set), x, but(y, func(s *api.State) { s.On = set }), want)
					mustBe(t, fmt.Sprintf("both are %b", set), x, but(y, func(s *api.State) { s.Must, s.On = set, set }), want)
				}
			}
			for _, n := range edges() {
				mustBe(t, fmt.Sprint("all numbers are ", n), x, api.State{At: n, Car: n, Time: n, Load: n, First: n, Must: all, May: may, On: all}, want)
			}
		}
	}
}

// P12.1: nothing of an instance but its places changes anything.
func TestOnlyPlacesCount(t *testing.T) {
	x := example()
	x.Cars, x.Room = 8, 1
	x.Stops[0].Due = 0
	x.Stops[1].Demand, x.Stops[1].Ready, x.Stops[1].Due, x.Stops[1].Service = 1000, 1<<20, 1<<20, 1000
	x.Stops[2].Demand, x.Stops[2].Due = -1000, 0
	mustBe(t, "nothing can follow", x, api.State{}, 10)
	mustBe(t, "nothing can follow, 1 was seen", x, api.State{May: of(1)}, 7)
	x.Stops[2].X, x.Stops[2].Y = 3, 7
	mustBe(t, "another place", x, api.State{}, 3+3+7)
	x.Stops[0].X = 3
	mustBe(t, "the yard at another place", x, api.State{}, 0+0+7)
}

// P12.1: stops that share a place: it is 0 from the nearest one to each of them, and only to them.
func TestSharedPlaces(t *testing.T) {
	p, q, r := point{3, 3}, point{3, 10}, point{300, 10}
	for _, c := range []struct {
		what   string
		places []point
		near   []int
	}{
		{"all at one place", []point{p, p, p, p, p}, []int{0, 0, 0, 0, 0}},
		{"the yard and the last one", []point{p, q, p}, []int{0, 7, 0}},
		{"the yard and the first one", []point{p, p, q}, []int{0, 0, 7}},
		{"a pair", []point{p, q, q}, []int{7, 0, 0}},
		{"two that are taken in", []point{p, q, q, r, p}, []int{0, 0, 0, 297, 0}},
		{"two that are brought", []point{p, r, q, p, p}, []int{0, 297, 7, 0, 0}},
		{"all but the yard", []point{r, q, q, q, q}, []int{297, 0, 0, 0, 0}},
	} {
		x := through(c.places...)
		for seen := range 1 << (len(c.places) - 1) {
			may := uint64(seen) << 1
			want := c.near[0]
			for i := 1; i < len(c.places); i++ {
				if !in(may, i) {
					want += c.near[i]
				}
			}
			mustBe(t, fmt.Sprintf("%s, %b was seen", c.what, may), x, api.State{May: may}, want)
		}
	}
}

// P12.1: without pairs it costs nothing.
func TestNoPairs(t *testing.T) {
	least := api.Instance{Cars: 1, Room: 1, Stops: []api.Stop{{}}}
	far := with(noPairs(), func(x *api.Instance) { x.Stops[0].X, x.Stops[0].Y = 10000, 10000 })
	for _, x := range []api.Instance{least, noPairs(), far} {
		if !inst.May(x) {
			t.Fatalf("it may not be: %+v", x)
		}
		for _, s := range manyStates(x) {
			mustBe(t, "no pairs", x, s, 0)
		}
	}
}

// manyStates are such as an instance has, and others.
func manyStates(x api.Instance) []api.State {
	l := []api.State{{}, state.Root(x), {Car: 1, May: all}, {May: of(1)}, {Must: all, May: all, On: all}, {At: 1, Car: 1, Must: of(1), May: of(1)}}
	for _, n := range edges() {
		l = append(l, api.State{At: n}, api.State{At: n, Car: n, Time: n, Load: n, First: n, Must: 5, May: 6, On: 7})
	}
	return l
}

// mustBeNothing asks for 0 of an instance that may not be, whatever the state is, and for the cost alone of a node.
func mustBeNothing(t *testing.T, what string, x api.Instance) {
	t.Helper()
	if inst.May(x) {
		t.Fatalf("%s: it may be: %+v", what, x)
	}
	mustBe(t, what, x, api.State{}, 0)
	mustBe(t, what, x, api.State{Car: 1}, 0)
	mustBe(t, what, x, api.State{May: all}, 0)
	mustCost(t, what, x, api.Node{Cost: api.Inf - 1}, api.Inf-1)
}

// P12.1: instances that may not be, in each way of chapter 5's.
func TestMayNotBe(t *testing.T) {
	ways := map[string]func(x *api.Instance){
		"noughts":                      func(x *api.Instance) { *x = api.Instance{} },
		"Pairs is one less":            func(x *api.Instance) { x.Pairs-- },
		"Pairs is one more":            func(x *api.Instance) { x.Pairs++ },
		"no Cars":                      func(x *api.Instance) { x.Cars = 0 },
		"too many Cars":                func(x *api.Instance) { x.Cars = 9 },
		"no Room":                      func(x *api.Instance) { x.Room = 0 },
		"too much Room":                func(x *api.Instance) { x.Room = 1001 },
		"no Stops":                     func(x *api.Instance) { x.Stops = nil },
		"the yard alone":               func(x *api.Instance) { x.Stops = x.Stops[:1] },
		"one stop too few":             func(x *api.Instance) { x.Stops = x.Stops[:len(x.Stops)-1] },
		"one stop too many":            func(x *api.Instance) { x.Stops = append(x.Stops, x.Stops[1]) },
		"the yard's Demand":            func(x *api.Instance) { x.Stops[0].Demand = 1 },
		"the yard's Service":           func(x *api.Instance) { x.Stops[0].Service = 1 },
		"nothing taken in":             func(x *api.Instance) { x.Stops[1].Demand, x.Stops[1+x.Pairs].Demand = 0, 0 },
		"too much taken in":            func(x *api.Instance) { x.Stops[1].Demand, x.Stops[1+x.Pairs].Demand = 1001, -1001 },
		"the signs are changed":        func(x *api.Instance) { x.Stops[1].Demand, x.Stops[1+x.Pairs].Demand = -2, 2 },
		"the sign is the same":         func(x *api.Instance) { x.Stops[1+x.Pairs].Demand *= -1 },
		"one less is brought":          func(x *api.Instance) { x.Stops[1+x.Pairs].Demand++ },
		"one more is brought":          func(x *api.Instance) { x.Stops[1+x.Pairs].Demand-- },
		"the last one, one less":       func(x *api.Instance) { x.Stops[2*x.Pairs].Demand++ },
		"the last one's Due too early": func(x *api.Instance) { s := &x.Stops[2*x.Pairs]; s.Ready, s.Due = 4, 3 },
	}
	for i := range 3 {
		name := fmt.Sprint(" of stop ", i)
		stop := func(x *api.Instance) *api.Stop { return &x.Stops[i] }
		ways["X below 0"+name] = func(x *api.Instance) { stop(x).X = -1 }
		ways["X too great"+name] = func(x *api.Instance) { stop(x).X = 10001 }
		ways["Y below 0"+name] = func(x *api.Instance) { stop(x).Y = -1 }
		ways["Y too great"+name] = func(x *api.Instance) { stop(x).Y = 10001 }
		ways["Ready below 0"+name] = func(x *api.Instance) { stop(x).Ready = -1 }
		ways["Ready behind Due"+name] = func(x *api.Instance) { stop(x).Ready = stop(x).Due + 1 }
		ways["Due too late"+name] = func(x *api.Instance) { stop(x).Due = 1<<20 + 1 }
		ways["Service below 0"+name] = func(x *api.Instance) { stop(x).Service = -1 }
		ways["Service too long"+name] = func(x *api.Instance) { stop(x).Service = 1001 }
	}
	for what, change := range ways {
		for _, x := range []api.Instance{example(), three(), doubling(), sixteen()} {
			mustBeNothing(t, fmt.Sprint(what, ", ", x.Pairs, " pairs"), with(x, change))
		}
	}
	mustBeNothing(t, "no pairs, no cars", with(noPairs(), func(x *api.Instance) { x.Cars = 0 }))
	mustBeNothing(t, "no pairs, two stops", with(noPairs(), func(x *api.Instance) { x.Stops = append(x.Stops, x.Stops[0]) }))
	s := lcg(2)
	mustBeNothing(t, "17 pairs", scattered(&s, 17, 100, 100))
	mustBeNothing(t, "2049 stops", api.Instance{Pairs: 1 << 10, Cars: 1, Room: 1, Stops: make([]api.Stop, 1<<11+1)})
}

// P12.1, P1: of an instance that may be, one number after the other is changed to one that may not be.
func TestOneNumberMayNotBe(t *testing.T) {
	for _, whole := range []api.Instance{noPairs(), example(), three(), sixteen()} {
		for i := range 3 + 6*len(whole.Stops) {
			for _, n := range []int{math.MinInt, -1001, -1, 1<<20 + 1, 1<<32 + 1, 1<<62 + 1, math.MaxInt} {
				x := clone(whole)
				l := []*int{&x.Pairs, &x.Cars, &x.Room}
				for k := range x.Stops {
					s := &x.Stops[k]
					l = append(l, &s.X, &s.Y, &s.Demand, &s.Ready, &s.Due, &s.Service)
				}
				*l[i] = n
				mustBeNothing(t, fmt.Sprint("number ", i, " of ", whole.Pairs, " pairs: ", n), x)
			}
		}
	}
}

// P12.1: what it has cost, and what it costs at least, as num's Sum: below 0 counts as 0, Inf stays Inf.
func TestOfCosts(t *testing.T) {
	x := example()
	nothing := api.Instance{}
	one := through(point{7, 7}, point{7, 7}, point{7, 7})
	for _, c := range []struct {
		what string
		x    api.Instance
		s    api.State
		at   int
	}{
		{"Root", x, state.Root(x), 10},
		{"all seen", x, api.State{May: of(1, 2)}, 3},
		{"16 pairs", sixteen(), api.State{}, 3300},
		{"the yard alone is far", corners(), api.State{}, 11181},
		{"at one place", one, state.Root(one), 0},
		{"no pairs", noPairs(), state.Root(noPairs()), 0},
		{"may not be", nothing, api.State{}, 0},
	} {
		if got := bound.At(c.x, c.s); got != c.at {
			t.Errorf("%s: At: %d, want %d", c.what, got, c.at)
		}
		for _, d := range []struct{ cost, want int }{
			{0, c.at},
			{1, c.at + 1},
			{2, c.at + 2},
			{12345, c.at + 12345},
			{1<<31 - 1, c.at + 1<<31 - 1},
			{1 << 32, c.at + 1<<32},
			{-1, c.at},
			{-c.at, c.at},
			{-c.at - 1, c.at},
			{-api.Inf, c.at},
			{-api.Inf - 1, c.at},
			{math.MinInt, c.at},
			{math.MinInt + 1, c.at},
			{api.Inf - c.at - 2, api.Inf - 2},
			{api.Inf - c.at - 1, api.Inf - 1},
			{api.Inf - c.at, api.Inf},
			{api.Inf - c.at + 1, api.Inf},
			{api.Inf - 1, min(api.Inf, api.Inf-1+c.at)},
			{api.Inf, api.Inf},
			{api.Inf + 1, api.Inf},
			{1 << 62, api.Inf},
			{math.MaxInt - c.at, api.Inf},
			{math.MaxInt, api.Inf},
		} {
			mustCost(t, fmt.Sprint(c.what, ", ", d.cost), c.x, api.Node{S: c.s, Cost: d.cost}, d.want)
		}
	}
}

// P12.1: a node's path changes nothing, whether it leads there or not.
func TestOfPaths(t *testing.T) {
	x := three()
	long := make([]int, 1<<16)
	for _, path := range [][]int{nil, {}, {0}, {1}, {1, 4}, {1, 2, 3, 4, 5, 6}, {6, 6, 6}, {-1}, {7, 64, 1 << 40}, {math.MinInt, math.MaxInt}, long} {
		for _, cost := range []int{0, 17, -3, api.Inf} {
			for _, s := range []api.State{state.Root(x), {At: 4, Car: 1, Must: of(1, 4), May: of(1, 4)}, {}} {
				want := min(api.Inf, max(cost, 0)+asSaid(x, s))
				mustCost(t, "a path", x, api.Node{S: s, Cost: cost, Path: path}, want)
			}
		}
	}
}

// P12.1: many nodes, held against the chapter's words.
func TestOfMany(t *testing.T) {
	s := lcg(3)
	for turn := range 3000 {
		x := scattered(&s, turn%17, []int{3, 40, 10001}[turn%3], 100)
		n := api.Node{S: anyState(&s), Cost: s.below(1 << 20), Path: []int{s.below(4), s.below(4)}}
		if s.below(3) == 0 {
			n.Cost = edges()[s.below(len(edges()))]
		}
		want := min(api.Inf, min(max(n.Cost, 0), api.Inf)+asSaid(x, n.S))
		mustCost(t, "many", x, n, want)
	}
}

// someStops are some of those up to 2n, seldom others, too.
func someStops(s *lcg, n int) uint64 {
	l := s.set() & (1<<(2*n+1) - 2)
	switch s.below(6) {
	case 0:
		l = 1<<(2*n+1) - 2
	case 1:
		l |= of(0, 63)
	}
	return l
}

// goingOn is a state of x whose stop is the yard, or in Must; from most of them something follows.
func goingOn(s *lcg, x api.Instance) api.State {
	n := x.Pairs
	y := api.State{
		At:    s.below(2*n + 1),
		Car:   1 + s.below(x.Cars),
		Time:  s.below(1 + x.Stops[0].Due),
		Load:  s.below(x.Room + 1),
		First: s.below(n + 1),
		Must:  someStops(s, n),
	}
	if y.At != 0 {
		y.Must |= of(y.At)
	}
	y.May = y.Must | someStops(s, n)
	if s.below(3) == 0 {
		y.On = y.May & s.set() & (1<<(n+1) - 2)
	}
	if s.below(8) == 0 {
		// No search comes to such a state: what was surely seen was not even perhaps.
		y.May = someStops(s, n)
	}
	return y
}

// seen counts what there was: moves of each kind, ends, and how often it cost just what it does at least.
type seen struct{ takes, brings, yards, ends, just int }

// mustNotCostLess asks that no move, and no end, costs less than what is said at least.
func (n *seen) mustNotCostLess(t *testing.T, x api.Instance, s api.State) {
	t.Helper()
	if s.At != 0 && !in(s.Must, s.At) {
		t.Fatalf("its stop is neither the yard, nor in Must: %+v", s)
	}
	least := bound.At(x, s)
	for _, j := range state.Moves(x, s) {
		there, far, _ := state.Move(x, s, j)
		behind := bound.At(x, there)
		if least > far+behind {
			t.Errorf("At: %d, but %d to %d, and %d behind it; from %+v to %+v; of %+v", least, far, j, behind, s, there, x)
		}
		if behind > least {
			t.Errorf("At: %d, and %d behind %d, where more was seen; from %+v to %+v; of %+v", least, behind, j, s, there, x)
		}
		n.count(x, j, least == far+behind)
	}
	far, is := state.End(x, s)
	if !is {
		return
	}
	if least > far {
		t.Errorf("At: %d, but it costs %d to end; at %+v of %+v", least, far, s, x)
	}
	n.ends++
	if least == far {
		n.just++
	}
}

func (n *seen) count(x api.Instance, j int, just bool) {
	switch {
	case j == 0:
		n.yards++
	case j <= x.Pairs:
		n.takes++
	default:
		n.brings++
	}
	if just {
		n.just++
	}
}

// mustHaveSeen asks that there were enough of each kind.
func (n *seen) mustHaveSeen(t *testing.T, enough int) {
	t.Helper()
	if n.takes < enough || n.brings < enough || n.yards < enough || n.ends < enough || n.just < enough {
		t.Errorf("too few of a kind: %+v", *n)
	}
}

// P12.2: the chapter's example, move by move: it costs 12 in all.
func TestExampleMoveByMove(t *testing.T) {
	x := example()
	s, cost := state.Root(x), 0
	for i, want := range []struct{ at, of int }{{10, 10}, {7, 10}, {3, 11}} {
		if at, of := bound.At(x, s), bound.Of(x, api.Node{S: s, Cost: cost}); at != want.at || of != want.of {
			t.Errorf("behind %d moves: At %d, Of %d; want %+v", i, at, of, want)
		}
		there, far, is := state.Move(x, s, i+1)
		if is {
			s, cost = there, cost+far
		}
	}
	if far, is := state.End(x, s); cost+far != 12 || !is {
		t.Errorf("it costs %d, %t", cost+far, is)
	}
}

// P12.2: from a state whose stop is the yard, or in Must, and from all that are behind it.
func TestNoMoveCostsLess(t *testing.T) {
	s := lcg(4)
	var n seen
	for turn := range 600 {
		x := scattered(&s, 1+turn%16, []int{3, 40, 10001}[turn%3], []int{60, 400, 40000}[turn%3])
		for range 6 {
			y := goingOn(&s, x)
			n.mustNotCostLess(t, x, y)
			for {
				l := state.Moves(x, y)
				if len(l) == 0 {
					break
				}
				y, _, _ = state.Move(x, y, l[s.below(len(l))])
				n.mustNotCostLess(t, x, y)
			}
		}
	}
	n.mustHaveSeen(t, 1000)
}

// P12.2: the same where no time is too short and there is room for all, on a line and on few places, where it often costs just what it does at least.
func TestNoMoveCostsLessWhereAllCan(t *testing.T) {
	s := lcg(5)
	var n seen
	for turn := range 300 {
		var places []point
		for range 3 + 2*s.below(16) {
			places = append(places, point{s.below(1 + turn%50), s.below(1 + turn%3)})
		}
		x := through(places...)
		for range 10 {
			n.mustNotCostLess(t, x, goingOn(&s, x))
		}
	}
	for _, x := range []api.Instance{example(), three(), doubling(), sixteen(), corners()} {
		n.mustNotCostLess(t, x, state.Root(x))
		for range 200 {
			n.mustNotCostLess(t, x, goingOn(&s, x))
		}
	}
	n.mustHaveSeen(t, 1000)
}

// P12.2: without pairs it costs nothing to end, and that is what it costs at least.
func TestEndWithoutPairs(t *testing.T) {
	x := noPairs()
	if far, is := state.End(x, state.Root(x)); far != 0 || !is || bound.At(x, state.Root(x)) != 0 {
		t.Errorf("End: %d, %t; At: %d", far, is, bound.At(x, state.Root(x)))
	}
}

// P12.2, at its edge: of a stop that is not in Must it is not said: it can be gone to from itself, for nothing.
func TestWhereTheStopIsNotInMust(t *testing.T) {
	x := example()
	s := api.State{At: 1, Car: 1, Time: 4}
	there, far, is := state.Move(x, s, 1)
	if far != 0 || !is {
		t.Fatalf("from 1 to 1: %d, %t", far, is)
	}
	mustBe(t, "at 1, which is not in Must", x, s, 10)
	mustBe(t, "behind it", x, there, 7)
}

// P12.2: all that can be followed and ended, of few pairs, costs no less than any node on its way does at least, and just what its plan costs; on no way is what it costs at least ever less than before.
func TestAllPaths(t *testing.T) {
	s := lcg(6)
	ends, rose, fell := 0, 0, 0
	for turn := range 80 {
		x := scattered(&s, turn%4, 6, 40+s.below(60))
		var goOn func(way []api.Node)
		goOn = func(way []api.Node) {
			last := way[len(way)-1]
			if far, is := state.End(x, last.S); is {
				ends++
				mustCostNoLess(t, x, way, last.Cost+far)
				mustBePlan(t, x, last.Path, last.Cost+far)
			}
			for _, j := range state.Moves(x, last.S) {
				there, far, _ := state.Move(x, last.S, j)
				next := api.Node{S: there, Cost: last.Cost + far, Path: append(slices.Clone(last.Path), j)}
				switch was, is := bound.Of(x, last), bound.Of(x, next); {
				case is < was:
					fell++
				case is > was:
					rose++
				}
				goOn(append(slices.Clone(way), next))
			}
		}
		goOn([]api.Node{{S: state.Root(x)}})
	}
	if ends < 500 || rose < 500 || fell > 0 {
		t.Errorf("%d ends; what a node costs at least rose %d times, and fell %d times", ends, rose, fell)
	}
}

// mustCostNoLess asks that no node on a way costs more at least than the way did to its end.
func mustCostNoLess(t *testing.T, x api.Instance, way []api.Node, cost int) {
	t.Helper()
	for _, n := range way {
		if least := bound.Of(x, n); least > cost {
			t.Errorf("Of: %d, but it cost %d; of %+v on the way to %+v; of %+v", least, cost, n, way[len(way)-1], x)
		}
	}
}

// mustBePlan asks that a path that was ended is the tour of a plan that costs just that.
func mustBePlan(t *testing.T, x api.Instance, path []int, cost int) {
	t.Helper()
	p, err := tour.Split(path)
	if err != api.OK {
		t.Errorf("Split(%d): error %d; of %+v", path, err, x)
		return
	}
	if n, err := plan.Cost(x, p); n != cost || err != api.OK {
		t.Errorf("%d costs %d, %d; followed %d; of %+v", p.Routes, n, err, cost, x)
	}
}

// leastAsFollowed is the least that it costs to go on from a state, and to end, by looking at all; Inf, if it can't be.
func leastAsFollowed(x api.Instance, s api.State) int {
	least := api.Inf
	if far, is := state.End(x, s); is {
		least = far
	}
	for _, j := range state.Moves(x, s) {
		there, far, _ := state.Move(x, s, j)
		least = min(least, far+leastAsFollowed(x, there))
	}
	return least
}

// P12.2: from any state whose stop is the yard, or in Must, nothing that follows to the end costs less.
func TestAllThatFollowsAnyState(t *testing.T) {
	s := lcg(7)
	ends, just, none := 0, 0, 0
	for turn := range 1200 {
		x := scattered(&s, 1+turn%3, 1+turn%8, 40+s.below(100))
		for range 5 {
			y := goingOn(&s, x)
			least, followed := bound.At(x, y), leastAsFollowed(x, y)
			if least > followed {
				t.Errorf("At: %d, but it can be ended for %d; at %+v of %+v", least, followed, y, x)
			}
			switch {
			case followed == api.Inf:
				none++
			case followed == least:
				just++
			default:
				ends++
			}
		}
	}
	if ends < 300 || just < 100 || none < 300 {
		t.Errorf("too few of a kind: %d, %d, %d", ends, just, none)
	}
}

// P12.2: long ways, of up to 16 pairs: each node on them.
func TestLongPaths(t *testing.T) {
	s := lcg(8)
	ends := map[int]int{}
	for turn := range 600 {
		x := scattered(&s, 1+s.below(16), 30, 40)
		x.Cars, x.Room = 8, 40
		for i := range x.Stops {
			x.Stops[i].Due = 5000
		}
		way := []api.Node{{S: state.Root(x)}}
		for {
			last := way[len(way)-1]
			if far, is := state.End(x, last.S); is {
				mustCostNoLess(t, x, way, last.Cost+far)
				ends[last.S.Car]++
				break
			}
			l := state.Moves(x, last.S)
			if len(l) == 0 {
				break
			}
			j := l[s.below(len(l))]
			switch {
			// Often each car is but for some pairs: it brings what it holds, and comes back.
			case turn%2 == 0 && last.S.On != 0:
				j = l[len(l)-1]
			case turn%2 == 0 && (l[0] == 0 || last.S.At == 0):
				j = l[0]
			}
			there, far, _ := state.Move(x, last.S, j)
			way = append(way, api.Node{S: there, Cost: last.Cost + far})
		}
	}
	if ends[1] < 50 || ends[2] < 20 || ends[4] < 10 || ends[8] < 10 {
		t.Errorf("too few of a kind: %v", ends)
	}
}

// P12.2: layers from Root in which all of one stop are thrown together: from each of them nothing costs less, too, and each has no greater At than any of which it is made.
func TestLayersThatAreThrownTogether(t *testing.T) {
	s := lcg(9)
	var n seen
	for turn := range 100 {
		x := scattered(&s, 1+turn%4, 12, 60+s.below(200))
		layer := map[int]api.State{0: state.Root(x)}
		for depth := 0; len(layer) > 0 && depth <= 4*x.Pairs+1; depth++ {
			behind := map[int][]api.State{}
			for at := range 2*x.Pairs + 1 {
				y, is := layer[at]
				if !is {
					continue
				}
				n.mustNotCostLess(t, x, y)
				for _, j := range state.Moves(x, y) {
					there, _, _ := state.Move(x, y, j)
					behind[j] = append(behind[j], there)
				}
			}
			layer = map[int]api.State{}
			for at, l := range behind {
				layer[at] = mustJoin(t, x, l)
			}
		}
	}
	n.mustHaveSeen(t, 300)
}

// mustJoin are some states, thrown together; it has no greater At than any of them.
func mustJoin(t *testing.T, x api.Instance, l []api.State) api.State {
	t.Helper()
	j, is := relax.Join(l...)
	if !is {
		t.Fatalf("they can't be thrown together: %+v", l)
	}
	for _, y := range l {
		mustNotBeGreater(t, x, j, y)
	}
	return j
}

// mustNotBeGreater asks that a state that covers another one costs no more at least.
func mustNotBeGreater(t *testing.T, x api.Instance, a, b api.State) {
	t.Helper()
	if !relax.Covers(a, b) {
		t.Fatalf("it does not cover:\n%+v and\n%+v", a, b)
	}
	if m, n := bound.At(x, a), bound.At(x, b); m > n {
		t.Errorf("At: %d, and %d where it is covered; at %+v and\n%+v; of %+v", m, n, a, b, x)
	}
}

// covering is a state that covers b.
func covering(s *lcg, b api.State) api.State {
	less := func(n int) int {
		if s.below(2) == 0 || n == math.MinInt {
			return n
		}
		return n - 1
	}
	a := api.State{
		At:    b.At,
		Car:   less(b.Car),
		Time:  less(b.Time),
		Load:  less(b.Load),
		First: less(b.First),
		Must:  b.Must & s.set(),
		May:   b.May,
		On:    b.On & s.set(),
	}
	if s.below(3) > 0 {
		a.May |= s.set()
	}
	return a
}

// P12.2: a state that covers another one has no greater At, whatever both are; nor have some that are thrown together.
func TestWhatCoversCostsNoMore(t *testing.T) {
	s := lcg(10)
	less, same := 0, 0
	for turn := range 3000 {
		x := scattered(&s, turn%17, []int{3, 40, 10001}[turn%3], 100)
		b := anyState(&s)
		if turn%2 == 0 && x.Pairs > 0 {
			b = goingOn(&s, x)
		}
		a := covering(&s, b)
		mustNotBeGreater(t, x, a, b)
		mustNotBeGreater(t, x, b, b)
		if bound.At(x, a) < bound.At(x, b) {
			less++
		} else {
			same++
		}
		l := []api.State{b}
		for range s.below(4) {
			l = append(l, but(anyState(&s), func(s *api.State) { s.At = b.At }))
		}
		j := mustJoin(t, x, l)
		if j.May != b.May && turn%17 > 0 {
			less++
		}
	}
	if less < 500 || same < 500 {
		t.Errorf("too few of a kind: %d, %d", less, same)
	}
}

// P12.2: the more was perhaps seen the less it is: with each stop more by just what is nearest to it.
func TestTheMoreWasSeen(t *testing.T) {
	s := lcg(11)
	for turn := range 320 {
		x := scattered(&s, 1+turn%16, []int{3, 40, 10001}[turn%3], 100)
		near := plane.Near(x)
		y := anyState(&s)
		y.May &= s.set()
		for i := range 64 {
			more := but(y, func(s *api.State) { s.May |= of(i) })
			by := 0
			if i >= 1 && i <= 2*x.Pairs && !in(y.May, i) {
				by = near[i]
			}
			if was, is := bound.At(x, y), bound.At(x, more); was-is != by {
				t.Errorf("with %d it is %d, without %d; want %d less; at %+v of %+v", i, is, was, by, y, x)
			}
			if s.below(2) == 0 {
				y = more
			}
		}
	}
}

// P12.2: it is never below what it costs to the yard at least, nor above what it costs at Root.
func TestBetweenAllSeenAndNone(t *testing.T) {
	s := lcg(12)
	for turn := range 800 {
		x := scattered(&s, turn%17, []int{3, 40, 10001}[turn%3], 100)
		y := anyState(&s)
		least, most := bound.At(x, api.State{May: all}), bound.At(x, state.Root(x))
		if n := bound.At(x, y); n < least || n > most || least < 0 || most > 33*14143 {
			t.Errorf("At: %d, not from %d to %d; at %+v of %+v", n, least, most, y, x)
		}
	}
}

// R3: what is handed in stays as it was, behind its end, too, and what is answered shares nothing with it.
func TestSharesNothingWithWhatIsHandedIn(t *testing.T) {
	behind := api.Stop{X: 6, Y: 5, Demand: 4, Ready: 3, Due: 2, Service: 1}
	x := example()
	stops, path := append(x.Stops, behind), []int{2, 1, -9, -9}
	x.Stops = stops[:3]
	n := api.Node{S: api.State{At: 1, Car: 1, Must: of(1), May: of(1)}, Cost: 3, Path: path[:2]}
	at, cost := bound.At(x, n.S), bound.Of(x, n)
	if !reflect.DeepEqual(x, example()) || stops[3] != behind || !slices.Equal(path, []int{2, 1, -9, -9}) {
		t.Fatalf("the stops are %+v now, the path %d", stops, path)
	}
	if n.S != (api.State{At: 1, Car: 1, Must: of(1), May: of(1)}) || n.Cost != 3 || len(n.Path) != 2 {
		t.Fatalf("the node is %+v now", n)
	}
	for i := range stops {
		stops[i] = api.Stop{X: 9, Y: 9, Demand: 9, Ready: 9, Due: 9, Service: 9}
		path[i] = 9
	}
	if at != 7 || cost != 10 {
		t.Errorf("a change of what was handed in made %d, %d", at, cost)
	}
	mustBe(t, "the instance that was changed", x, n.S, 0)
}

// R3, R5: a change of an instance's places is seen, where nothing else of it changes.
func TestPlacesThatAreChanged(t *testing.T) {
	x := three()
	mustBe(t, "as it was", x, api.State{}, 240)
	x.Stops[6].X = 134
	mustBe(t, "the last stop is beside the one ahead", x, api.State{}, 7+7+11+20+35+1+1)
	x.Stops[6].X = 233
	mustBe(t, "as it was", x, api.State{}, 240)
	x.Cars = 9
	mustBe(t, "it may not be", x, api.State{}, 0)
	x.Cars = 3
	mustBe(t, "as it was", x, api.State{}, 240)
}

// R5: no answer hangs on what was asked before.
func TestAskedAgain(t *testing.T) {
	s := lcg(13)
	for range 100 {
		x, y := scattered(&s, 16, 50, 300), anyState(&s)
		mustBe(t, "between", x, y, asSaid(x, y))
		mustBeNothing(t, "noughts", api.Instance{})
		mustBe(t, "no pairs", noPairs(), y, 0)
		TestExample(t)
		mustBe(t, "again", x, y, asSaid(x, y))
	}
}

// The tests' own sets and instances are made as they should be.
func TestWhatTheTestsAreMadeOf(t *testing.T) {
	if of() != 0 || of(1, 3) != 10 || of(63) != 1<<63 || bits.OnesCount64(of(0, 5, 63)) != 3 || !in(10, 3) || in(10, 2) || allOf(three()) != of(1, 2, 3, 4, 5, 6) {
		t.Error("of, in or allOf")
	}
	if asSaid(example(), api.State{}) != 10 || asSaid(example(), api.State{May: of(1)}) != 7 || asSaid(example(), api.State{May: all}) != 3 || asSaid(noPairs(), api.State{}) != 0 {
		t.Error("asSaid")
	}
	for _, x := range []api.Instance{example(), three(), doubling(), sixteen(), corners(), noPairs()} {
		if !inst.May(x) {
			t.Errorf("it may not be: %+v", x)
		}
	}
	if near := plane.Near(three()); !slices.Equal(near, []int{7, 7, 11, 20, 35, 60, 100}) {
		t.Errorf("three: %d", near)
	}
}
