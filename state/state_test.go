package state_test

import (
	"fmt"
	"math"
	"reflect"
	"slices"
	"testing"

	"haulier/api"
	"haulier/inst"
	"haulier/plan"
	"haulier/plane"
	"haulier/state"
	"haulier/tour"
)

// lcg is a row of numbers that are spread out, the same in each run.
type lcg uint64

func (s *lcg) below(n int) int {
	*s = *s*6364136223846793005 + 1442695040888963407
	// The low bits of such a row repeat soon: only the high ones are taken.
	return int(uint64(*s) >> 33 % uint64(n))
}

// example is chapter 5's: one pair.
func example() api.Instance {
	return api.Instance{Pairs: 1, Cars: 1, Room: 5, Stops: []api.Stop{
		{X: 0, Y: 0, Demand: 0, Ready: 0, Due: 100, Service: 0},
		{X: 3, Y: 0, Demand: 2, Ready: 0, Due: 50, Service: 1},
		{X: 0, Y: 4, Demand: -2, Ready: 0, Due: 90, Service: 1},
	}}
}

// three are three pairs on a line, of 3, 4 and 5 things; there is room for the first two together, or the third one; the yard opens at 5.
func three() api.Instance {
	return api.Instance{Pairs: 3, Cars: 2, Room: 8, Stops: []api.Stop{
		{X: 100, Ready: 5, Due: 1000},
		{X: 110, Demand: 3, Due: 500, Service: 1},
		{X: 120, Demand: 4, Due: 500, Service: 2},
		{X: 130, Demand: 5, Due: 500, Service: 3},
		{X: 150, Demand: -3, Due: 600, Service: 4},
		{X: 160, Demand: -4, Due: 600, Service: 5},
		{X: 170, Demand: -5, Due: 600, Service: 6},
	}}
}

// sixteen are 16 pairs on a line, 100 from stop to stop, each of one thing, for all of which there is just room.
func sixteen() api.Instance {
	x := api.Instance{Pairs: 16, Cars: 8, Room: 16}
	for i := range 33 {
		s := api.Stop{X: 100 * i, Due: api.MaxTime}
		switch {
		case i == 0:
			s.Ready = 9
		case i <= 16:
			s.Demand = 1
		default:
			s.Demand = -1
		}
		x.Stops = append(x.Stops, s)
	}
	return x
}

func noPairs() api.Instance {
	return api.Instance{Cars: 2, Room: 1, Stops: []api.Stop{{X: 4, Y: 5, Ready: 6, Due: 7}}}
}

// wrongOnes are instances that may not be.
func wrongOnes(t *testing.T) []api.Instance {
	wrong := []api.Instance{
		{},
		{Cars: 1, Room: 1},
		{Pairs: 1, Cars: 1, Room: 5, Stops: append(example().Stops, api.Stop{})},
		{Pairs: 1, Cars: 1, Room: 5, Stops: example().Stops[:2]},
		{Pairs: 1 << 10, Cars: 1, Room: 1, Stops: make([]api.Stop, 1<<11+1)},
		{Pairs: 17, Cars: 1, Room: 17, Stops: append(sixteen().Stops, api.Stop{}, api.Stop{})},
	}
	for _, pairs := range []int{-1, 0, 2, math.MinInt, math.MaxInt, 1<<62 + 1, 1<<63 - 1, 1<<32 + 1} {
		wrong = append(wrong, with(example(), func(x *api.Instance) { x.Pairs = pairs }))
	}
	for i := range 3 + 6*3 {
		for _, n := range []int{math.MinInt, -1001, -1, 1<<20 + 1, 1<<32 + 1, math.MaxInt} {
			x := example()
			l := []*int{&x.Pairs, &x.Cars, &x.Room}
			for k := range x.Stops {
				s := &x.Stops[k]
				l = append(l, &s.X, &s.Y, &s.Demand, &s.Ready, &s.Due, &s.Service)
			}
			*l[i] = n
			wrong = append(wrong, x)
		}
	}
	for _, x := range wrong {
		if inst.May(x) {
			t.Fatalf("it may be: %+v", x)
		}
	}
	return wrong
}

func clone(x api.Instance) api.Instance {
	x.Stops = slices.Clone(x.Stops)
	return x
}

// with is x after a change.
func with(x api.Instance, change func(x *api.Instance)) api.Instance {
	x = clone(x)
	change(&x)
	return x
}

// but is s after a change.
func but(s api.State, change func(s *api.State)) api.State {
	change(&s)
	return s
}

// bits is a set, made by hand.
func bits(l ...int) uint64 {
	var s uint64
	for _, i := range l {
		s |= 1 << i
	}
	return s
}

// row is the numbers from least to most.
func row(least, most int) []int {
	var l []int
	for n := least; n <= most; n++ {
		l = append(l, n)
	}
	return l
}

// mustAnswer asks for just this answer of Move, and that the instance stays as it was.
func mustAnswer(t *testing.T, what string, x api.Instance, s api.State, j int, want api.State, far int, is bool) {
	t.Helper()
	was := clone(x)
	if got, n, ok := state.Move(x, s, j); got != want || n != far || ok != is {
		t.Errorf("%s: Move from %+v to %d: %+v, %d, %t; want %+v, %d, %t; of %+v", what, s, j, got, n, ok, want, far, is, x)
	}
	if !reflect.DeepEqual(x, was) {
		t.Errorf("%s: it is now %+v, it was %+v", what, x, was)
	}
}

// mustMove asks for a move to just this state, at this cost, and that Moves names it.
func mustMove(t *testing.T, what string, x api.Instance, s api.State, j int, want api.State, far int) {
	t.Helper()
	mustAnswer(t, what, x, s, j, want, far, true)
	if l := state.Moves(x, s); !slices.Contains(l, j) {
		t.Errorf("%s: Moves of %+v: %d, without %d; of %+v", what, s, l, j, x)
	}
}

// mustNot asks that j can't be next: for the state itself, 0 and false, and that Moves does not name it.
func mustNot(t *testing.T, what string, x api.Instance, s api.State, j int) {
	t.Helper()
	mustAnswer(t, what, x, s, j, s, 0, false)
	if l := state.Moves(x, s); slices.Contains(l, j) {
		t.Errorf("%s: Moves of %+v: %d, with %d; of %+v", what, s, l, j, x)
	}
}

// can tells whether j can be next.
func can(x api.Instance, s api.State, j int) bool {
	_, _, is := state.Move(x, s, j)
	return is
}

// mustBe asks whether j can be next, whatever the state is then.
func mustBe(t *testing.T, what string, x api.Instance, s api.State, j int, is bool) {
	t.Helper()
	if !is {
		mustNot(t, what, x, s, j)
		return
	}
	if got := can(x, s, j); !got || !slices.Contains(state.Moves(x, s), j) {
		t.Errorf("%s: from %+v to %d: %t; Moves %d; it can be; of %+v", what, s, j, got, state.Moves(x, s), x)
	}
}

// mustMoves asks for just these moves, and that the instance stays as it was.
func mustMoves(t *testing.T, what string, x api.Instance, s api.State, want ...int) {
	t.Helper()
	was := clone(x)
	if got := state.Moves(x, s); !slices.Equal(got, want) {
		t.Errorf("%s: Moves of %+v: %d, want %d; of %+v", what, s, got, want, x)
	}
	if !reflect.DeepEqual(x, was) {
		t.Errorf("%s: it is now %+v, it was %+v", what, x, was)
	}
}

// mustEnd asks for just this answer of End, and that the instance stays as it was.
func mustEnd(t *testing.T, what string, x api.Instance, s api.State, far int, is bool) {
	t.Helper()
	was := clone(x)
	if n, ok := state.End(x, s); n != far || ok != is {
		t.Errorf("%s: End of %+v: %d, %t; want %d, %t; of %+v", what, s, n, ok, far, is, x)
	}
	if !reflect.DeepEqual(x, was) {
		t.Errorf("%s: it is now %+v, it was %+v", what, x, was)
	}
}

// mustFollow asks for just this answer of Follow, and that what is handed in stays as it was.
func mustFollow(t *testing.T, what string, x api.Instance, path []int, want api.State, cost int, err api.Errno) {
	t.Helper()
	wasX, wasPath := clone(x), slices.Clone(path)
	if got, n, e := state.Follow(x, path); got != want || n != cost || e != err {
		t.Errorf("%s: Follow %d: %+v, %d, %d; want %+v, %d, %d; of %+v", what, path, got, n, e, want, cost, err, x)
	}
	if !reflect.DeepEqual(x, wasX) || !slices.Equal(path, wasPath) {
		t.Errorf("%s: it is now %+v and %d, it was %+v and %d", what, x, path, wasX, wasPath)
	}
}

// mustFail asks for an error with noughts beside it.
func mustFail(t *testing.T, what string, x api.Instance, path []int, err api.Errno) {
	t.Helper()
	mustFollow(t, what, x, path, api.State{}, 0, err)
}

// followed is the state behind moves that can be made.
func followed(t *testing.T, x api.Instance, path ...int) api.State {
	t.Helper()
	s, _, err := state.Follow(x, path)
	if err != api.OK {
		t.Fatalf("Follow %d: error %d; of %+v", path, err, x)
	}
	return s
}

// goesOn tells whether a state may go on, by the chapter's words.
func goesOn(x api.Instance, s api.State) bool {
	return inst.May(x) && s.At >= 0 && s.At <= 2*x.Pairs && s.Car >= 1 && s.Car <= x.Cars && s.Time >= 0 && s.Time <= 1<<30 && s.Load >= 0 && s.Load <= 1000
}

// in tells whether i is in a set.
func in(s uint64, i int) bool { return s>>i&1 == 1 }

// allIn tells whether all stops from 1 to 2n are in a set.
func allIn(x api.Instance, s uint64) bool {
	for i := 1; i <= 2*x.Pairs; i++ {
		if !in(s, i) {
			return false
		}
	}
	return true
}

// moved is what Move answers by the chapter's words.
func moved(x api.Instance, s api.State, j int) (api.State, int, bool) {
	n := x.Pairs
	if !goesOn(x, s) || j < 0 || j > 2*n {
		return s, 0, false
	}
	far := plane.Far(x.Stops[s.At], x.Stops[j])
	c := s.Time + far
	b := c
	if x.Stops[j].Ready > b {
		b = x.Stops[j].Ready
	}
	is, there := false, s
	switch {
	case j == 0:
		is = s.At != 0 && s.On == 0 && s.Car < x.Cars && !allIn(x, s.Must) && c <= x.Stops[0].Due
		there = api.State{At: 0, Car: s.Car + 1, Time: x.Stops[0].Ready, Load: 0, First: s.First, Must: s.Must, May: s.May, On: s.On}
	case j <= n:
		is = !in(s.Must, j) && s.Load+x.Stops[j].Demand <= x.Room && b <= x.Stops[j].Due && (s.At != 0 || j > s.First)
		there = api.State{At: j, Car: s.Car, Time: b + x.Stops[j].Service, Load: s.Load + x.Stops[j].Demand, First: s.First, Must: s.Must | 1<<j, May: s.May | 1<<j, On: s.On | 1<<j}
		if s.At == 0 {
			there.First = j
		}
	default:
		is = s.At != 0 && !in(s.Must, j) && in(s.May, j-n) && b <= x.Stops[j].Due
		there = api.State{At: j, Car: s.Car, Time: b + x.Stops[j].Service, Load: s.Load + x.Stops[j].Demand, First: s.First, Must: s.Must | 1<<j, May: s.May | 1<<j, On: s.On &^ (1 << (j - n))}
		if there.Load < 0 {
			there.Load = 0
		}
	}
	if !is {
		return s, 0, false
	}
	return there, far, true
}

// ended is what End answers by the chapter's words.
func ended(x api.Instance, s api.State) (int, bool) {
	if inst.May(x) && x.Pairs == 0 && s == (api.State{Car: 1, Time: x.Stops[0].Ready}) {
		return 0, true
	}
	if !goesOn(x, s) || s.At == 0 || s.On != 0 || !allIn(x, s.May) {
		return 0, false
	}
	far := plane.Far(x.Stops[s.At], x.Stops[0])
	if s.Time+far > x.Stops[0].Due {
		return 0, false
	}
	return far, true
}

// mustBeAsSaid holds Move, Moves and End at a state against the chapter's words, and answers how many moves there are.
func mustBeAsSaid(t *testing.T, what string, x api.Instance, s api.State) int {
	t.Helper()
	var l []int
	for j := -2; j <= 2*x.Pairs+2; j++ {
		want, far, is := moved(x, s, j)
		mustAnswer(t, what, x, s, j, want, far, is)
		if is {
			l = append(l, j)
		}
	}
	mustMoves(t, what, x, s, l...)
	far, is := ended(x, s)
	mustEnd(t, what, x, s, far, is)
	return len(l)
}

// scattered is an instance of so many pairs, on so many places a side, whose times are as short.
func scattered(s *lcg, pairs, side, room, due int) api.Instance {
	x := api.Instance{Pairs: pairs, Cars: 1 + s.below(4), Room: room}
	for i := range 2*pairs + 1 {
		p := api.Stop{X: s.below(side), Y: s.below(side), Ready: s.below(1 + due/2), Service: s.below(3)}
		p.Due = p.Ready + s.below(1+due)
		switch {
		case i == 0:
			p.Service, p.Ready = 0, p.Ready/4
			p.Due += due
		case i <= pairs:
			p.Demand = 1 + s.below(5)
		default:
			p.Due += due / 2
			p.Demand = -x.Stops[i-pairs].Demand
		}
		x.Stops = append(x.Stops, p)
	}
	return x
}

// someSet is a set of stops up to 2n, seldom of others, too: most of them, some, few or all.
func someSet(s *lcg, n int) uint64 {
	var l uint64
	kind := s.below(4)
	for i := 1; i <= 2*n; i++ {
		if s.below(4) >= kind {
			l |= 1 << i
		}
	}
	if s.below(8) == 0 {
		l |= 1 | 1<<(2*n+1) | 1<<63
	}
	return l
}

// someState is a state of x that may go on, but for one in many.
func someState(s *lcg, x api.Instance) api.State {
	y := api.State{
		At:    s.below(2*x.Pairs + 1),
		Car:   1 + s.below(x.Cars),
		Time:  s.below(x.Stops[0].Due + 20),
		Load:  s.below(x.Room + 2),
		First: s.below(x.Pairs+3) - 1,
		Must:  someSet(s, x.Pairs),
	}
	y.May = y.Must | someSet(s, x.Pairs)
	if s.below(3) > 0 {
		y.On = y.May & someSet(s, x.Pairs) & (1<<(x.Pairs+1) - 1)
	}
	if s.below(2) == 0 {
		y.On = 0
	}
	switch s.below(40) {
	case 0:
		y.At = s.below(2)*(2*x.Pairs+2) - 1
	case 1:
		y.Car = s.below(2) * (x.Cars + 1)
	case 2:
		y.Time = -1
	case 3:
		y.Load = -1
	case 4:
		// Such a set is no state's that a search comes to.
		y.May = someSet(s, x.Pairs)
	}
	return y
}

// P10.1: At 0, Car 1, Time the yard's Ready, all else 0; also without pairs, and of the most pairs.
func TestRoot(t *testing.T) {
	for _, c := range []struct {
		x    api.Instance
		time int
	}{{example(), 0}, {three(), 5}, {sixteen(), 9}, {noPairs(), 6}} {
		was := clone(c.x)
		if got := state.Root(c.x); got != (api.State{Car: 1, Time: c.time}) {
			t.Errorf("Root: %+v; of %+v", got, c.x)
		}
		if !reflect.DeepEqual(c.x, was) {
			t.Errorf("it is now %+v, it was %+v", c.x, was)
		}
	}
	x := example()
	for _, ready := range []int{0, 1, 100, api.MaxTime} {
		x.Stops[0].Ready, x.Stops[0].Due = ready, api.MaxTime
		if got := state.Root(x); got != (api.State{Car: 1, Time: ready}) {
			t.Errorf("Root: %+v; Ready is %d", got, ready)
		}
	}
}

// P10.1: of an instance that may not be there are noughts.
func TestRootOfMayNotBe(t *testing.T) {
	for _, x := range wrongOnes(t) {
		was := clone(x)
		if got := state.Root(x); got != (api.State{}) {
			t.Errorf("Root: %+v; of %+v", got, x)
		}
		if !reflect.DeepEqual(x, was) {
			t.Errorf("it is now %+v, it was %+v", x, was)
		}
	}
}

// P10.1 to P10.4: the chapter's example.
func TestExample(t *testing.T) {
	x := example()
	mustMoves(t, "Root", x, state.Root(x), 1)
	s := api.State{At: 2, Car: 1, Time: 10, First: 1, Must: bits(1, 2), May: bits(1, 2)}
	mustFollow(t, "1 2", x, []int{1, 2}, s, 8, api.OK)
	mustEnd(t, "1 2", x, s, 4, true)
	mustMoves(t, "1 2", x, s)
	mustEnd(t, "Root", x, state.Root(x), 0, false)
	mustFollow(t, "1", x, []int{1}, api.State{At: 1, Car: 1, Time: 4, Load: 2, First: 1, Must: bits(1), May: bits(1), On: bits(1)}, 3, api.OK)
	mustFail(t, "2", x, []int{2}, api.ErrNone)
	mustFail(t, "1 1", x, []int{1, 1}, api.ErrNone)
	mustFail(t, "1 2 0", x, []int{1, 2, 0}, api.ErrNone)
}

// P10.2, P10.3: three pairs and two cars, move by move, written out.
func TestMoveByMove(t *testing.T) {
	x := three()
	root := api.State{Car: 1, Time: 5}
	mustMoves(t, "root", x, root, 1, 2, 3)
	at2 := api.State{At: 2, Car: 1, Time: 27, Load: 4, First: 2, Must: bits(2), May: bits(2), On: bits(2)}
	mustMove(t, "2", x, root, 2, at2, 20)
	mustMoves(t, "2", x, at2, 1, 5)
	at1 := api.State{At: 1, Car: 1, Time: 38, Load: 7, First: 2, Must: bits(1, 2), May: bits(1, 2), On: bits(1, 2)}
	mustMove(t, "2 1", x, at2, 1, at1, 10)
	mustMoves(t, "2 1", x, at1, 4, 5)
	at5 := api.State{At: 5, Car: 1, Time: 93, Load: 3, First: 2, Must: bits(1, 2, 5), May: bits(1, 2, 5), On: bits(1)}
	mustMove(t, "2 1 5", x, at1, 5, at5, 50)
	mustMoves(t, "2 1 5", x, at5, 3, 4)
	at4 := api.State{At: 4, Car: 1, Time: 107, First: 2, Must: bits(1, 2, 4, 5), May: bits(1, 2, 4, 5)}
	mustMove(t, "2 1 5 4", x, at5, 4, at4, 10)
	mustMoves(t, "2 1 5 4", x, at4, 0, 3)
	mustEnd(t, "2 1 5 4", x, at4, 0, false)
	back := api.State{At: 0, Car: 2, Time: 5, First: 2, Must: bits(1, 2, 4, 5), May: bits(1, 2, 4, 5)}
	mustMove(t, "2 1 5 4 0", x, at4, 0, back, 50)
	mustMoves(t, "2 1 5 4 0", x, back, 3)
	at3 := api.State{At: 3, Car: 2, Time: 38, Load: 5, First: 3, Must: bits(1, 2, 3, 4, 5), May: bits(1, 2, 3, 4, 5), On: bits(3)}
	mustMove(t, "2 1 5 4 0 3", x, back, 3, at3, 30)
	mustMoves(t, "2 1 5 4 0 3", x, at3, 6)
	at6 := api.State{At: 6, Car: 2, Time: 84, First: 3, Must: bits(1, 2, 3, 4, 5, 6), May: bits(1, 2, 3, 4, 5, 6)}
	mustMove(t, "2 1 5 4 0 3 6", x, at3, 6, at6, 40)
	mustMoves(t, "2 1 5 4 0 3 6", x, at6)
	mustEnd(t, "2 1 5 4 0 3 6", x, at6, 70, true)
	mustFollow(t, "all", x, []int{2, 1, 5, 4, 0, 3, 6}, at6, 210, api.OK)
	// The same car may go on to the third pair as well.
	at6 = api.State{At: 6, Car: 1, Time: 107 + 20 + 3 + 40 + 6, First: 2, Must: bits(1, 2, 3, 4, 5, 6), May: bits(1, 2, 3, 4, 5, 6)}
	mustFollow(t, "one car", x, []int{2, 1, 5, 4, 3, 6}, at6, 20+10+50+10+20+40, api.OK)
}

// P10.2, P10.3, P1: nothing goes on, if the instance may not be.
func TestMayNotBe(t *testing.T) {
	for _, x := range wrongOnes(t) {
		for _, s := range []api.State{
			{}, {Car: 1}, {At: 2, Car: 1, Must: 6, May: 6}, {At: 1, Car: 1, Must: 2, May: 2, On: 2, Load: 2},
			{At: -1, Car: -1, Time: -1, Load: -1, First: -1, Must: 1, May: 1, On: 1},
			{At: math.MaxInt, Car: math.MaxInt, Time: math.MaxInt, Load: math.MaxInt, First: math.MaxInt, Must: math.MaxUint64, May: math.MaxUint64, On: math.MaxUint64},
		} {
			for _, j := range []int{-1, 0, 1, 2, 3, 33, math.MinInt, math.MaxInt} {
				mustNot(t, "may not be", x, s, j)
			}
			mustMoves(t, "may not be", x, s)
			mustEnd(t, "may not be", x, s, 0, false)
		}
	}
}

// open is a state of three() from which each stop can be gone to, and the yard, and at which all can be ended.
func open() api.State {
	return api.State{At: 4, Car: 1, Time: 0, Load: 0, First: 2, Must: 0, May: bits(1, 2, 3, 4, 5, 6)}
}

// mustStay asks that nothing follows a state that may not go on.
func mustStay(t *testing.T, what string, x api.Instance, s api.State) {
	t.Helper()
	for j := -1; j <= 2*x.Pairs+1; j++ {
		mustNot(t, what, x, s, j)
	}
	mustMoves(t, what, x, s)
	mustEnd(t, what, x, s, 0, false)
}

// P10.2, P10.3: what may go on: At, Car, Time and Load at their bounds, and one beyond.
func TestMayGoOn(t *testing.T) {
	x := three()
	mustMoves(t, "open", x, open(), 0, 1, 2, 3, 4, 5, 6)
	mustEnd(t, "open", x, open(), 50, true)
	for _, c := range []struct {
		what        string
		field       func(s *api.State) *int
		least, most int
	}{
		{"At", func(s *api.State) *int { return &s.At }, 0, 6},
		{"Car", func(s *api.State) *int { return &s.Car }, 1, 2},
		{"Time", func(s *api.State) *int { return &s.Time }, 0, 1 << 30},
		{"Load", func(s *api.State) *int { return &s.Load }, 0, 1000},
	} {
		for _, n := range []int{c.least - 1, c.most + 1, -2, -1 << 32, 1<<32 + 1, math.MinInt, math.MinInt + 1, math.MaxInt - 1, math.MaxInt} {
			mustStay(t, fmt.Sprint(c.what, " is ", n), x, but(open(), func(s *api.State) { *c.field(s) = n }))
		}
		for _, n := range []int{c.least, c.most} {
			mustBeAsSaid(t, fmt.Sprint(c.what, " is ", n), x, but(open(), func(s *api.State) { *c.field(s) = n }))
		}
	}
	at := func(n int) api.State { return but(open(), func(s *api.State) { s.At = n }) }
	mustMoves(t, "the least At", x, at(0), 3)
	mustMoves(t, "the greatest At", x, at(6), 0, 1, 2, 3, 4, 5, 6)
	mustEnd(t, "the greatest At", x, at(6), 70, true)
	car := func(n int) api.State { return but(open(), func(s *api.State) { s.Car = n }) }
	mustMoves(t, "the last car", x, car(2), 1, 2, 3, 4, 5, 6)
	mustEnd(t, "the last car", x, car(2), 50, true)
	load := func(n int) api.State { return but(open(), func(s *api.State) { s.Load = n }) }
	mustMoves(t, "the greatest Load", x, load(1000), 0, 4, 5, 6)
	mustMove(t, "the greatest Load", x, load(1000), 5, api.State{At: 5, Car: 1, Time: 15, Load: 996, First: 2, Must: bits(5), May: open().May}, 10)
	mustEnd(t, "the greatest Load", x, load(1000), 50, true)
	// No Due is as late as the greatest Time.
	mustStay(t, "the greatest Time", x, but(open(), func(s *api.State) { s.Time = 1 << 30 }))
}

// P10.2, P10.3: the greatest At and Car that are at all.
func TestMayGoOnOfTheMostPairs(t *testing.T) {
	x := sixteen()
	s := api.State{At: 32, Car: 8, Load: 15, May: 1<<33 - 2}
	mustMoves(t, "all", x, s, row(1, 32)...)
	mustEnd(t, "all", x, s, 3200, true)
	s.Car = 9
	mustStay(t, "a car too many", x, s)
	s.Car, s.At = 8, 33
	mustStay(t, "no stop", x, s)
	s.At, s.Car, s.Load = 32, 7, 1000
	mustMoves(t, "much on it", x, s, append([]int{0}, row(17, 32)...)...)
}

// P10.2: numbers that are no stop can't be next; the first and the last one of each kind can.
func TestNumbers(t *testing.T) {
	x := three()
	for _, j := range []int{math.MinInt, math.MinInt + 1, -1 << 32, -7, -1, 7, 8, 32, 33, 63, 64, 65, 128, 1 << 32, 1<<32 + 1, math.MaxInt - 1, math.MaxInt} {
		mustNot(t, "no stop", x, open(), j)
		mustNot(t, "no stop, from Root", x, state.Root(x), j)
		mustNot(t, "no stop, of no pairs", noPairs(), state.Root(noPairs()), j)
		s := open()
		s.May = math.MaxUint64
		mustNot(t, "no stop, May is all", x, s, j)
	}
	all := open().May
	mustMove(t, "the yard", x, open(), 0, api.State{Car: 2, Time: 5, First: 2, May: all}, 50)
	mustMove(t, "1", x, open(), 1, api.State{At: 1, Car: 1, Time: 41, Load: 3, First: 2, Must: bits(1), May: all, On: bits(1)}, 40)
	mustMove(t, "n", x, open(), 3, api.State{At: 3, Car: 1, Time: 23, Load: 5, First: 2, Must: bits(3), May: all, On: bits(3)}, 20)
	mustMove(t, "n + 1", x, open(), 4, api.State{At: 4, Car: 1, Time: 4, First: 2, Must: bits(4), May: all}, 0)
	mustMove(t, "2n", x, open(), 6, api.State{At: 6, Car: 1, Time: 26, First: 2, Must: bits(6), May: all}, 20)
	y := sixteen()
	s := api.State{At: 5, Car: 3, Time: 7, First: 4, May: 1<<33 - 2, On: bits(16)}
	mustMove(t, "n of the most pairs", y, s, 16, api.State{At: 16, Car: 3, Time: 1107, Load: 1, First: 4, Must: bits(16), May: 1<<33 - 2, On: bits(16)}, 1100)
	mustMove(t, "n + 1 of the most pairs", y, s, 17, api.State{At: 17, Car: 3, Time: 1207, First: 4, Must: bits(17), May: 1<<33 - 2, On: bits(16)}, 1200)
	mustMove(t, "2n of the most pairs", y, s, 32, api.State{At: 32, Car: 3, Time: 2707, First: 4, Must: bits(32), May: 1<<33 - 2}, 2700)
	mustNot(t, "above 2n of the most pairs", y, s, 33)
}

// P10.2: what is taken in must not be in Must; in May alone, it can be.
func TestTakeSets(t *testing.T) {
	x := three()
	for j := 1; j <= 3; j++ {
		for _, at := range []int{0, 4, 5} {
			s := api.State{At: at, Car: 1}
			mustBe(t, "in no set", x, s, j, true)
			s.May = bits(j)
			mustBe(t, "in May alone", x, s, j, true)
			s.May, s.Must = 0, bits(j)
			mustBe(t, "in Must alone", x, s, j, false)
			s.May = bits(j)
			mustBe(t, "in both", x, s, j, false)
			s.Must, s.May = math.MaxUint64&^bits(j), math.MaxUint64
			mustBe(t, "all others in Must", x, s, j, true)
			// Nothing is asked of On.
			s.On = math.MaxUint64
			mustBe(t, "in On", x, s, j, true)
		}
	}
	s := api.State{At: 4, Car: 1, Time: 1, Load: 2, First: 9, Must: bits(0, 2, 63), May: bits(1, 6, 40), On: bits(3, 5, 50)}
	mustMove(t, "odd sets", x, s, 1, api.State{At: 1, Car: 1, Time: 42, Load: 5, First: 9, Must: bits(0, 1, 2, 63), May: bits(1, 6, 40), On: bits(1, 3, 5, 50)}, 40)
	mustMove(t, "odd sets, again", x, s, 3, api.State{At: 3, Car: 1, Time: 24, Load: 7, First: 9, Must: bits(0, 2, 3, 63), May: bits(1, 3, 6, 40), On: bits(3, 5, 50)}, 20)
}

// P10.2: Load and Demand just at Room, and one above; at the greatest amounts, too.
func TestTakeRoom(t *testing.T) {
	x := three()
	s := api.State{At: 4, Car: 1, Load: 5}
	mustMove(t, "just Room", x, s, 1, api.State{At: 1, Car: 1, Time: 41, Load: 8, Must: bits(1), May: bits(1), On: bits(1)}, 40)
	mustNot(t, "one above", x, s, 2)
	s.Load = 4
	mustBe(t, "just Room", x, s, 2, true)
	mustNot(t, "one above", x, s, 3)
	s.Load = 3
	mustBe(t, "just Room", x, s, 3, true)
	s.Load = 6
	mustNot(t, "one above", x, s, 1)
	s.At, s.Load = 0, 3
	mustBe(t, "just Room, at the yard", x, s, 3, true)
	s.Load = 4
	mustNot(t, "one above, at the yard", x, s, 3)
	much := with(three(), func(x *api.Instance) { x.Room, x.Stops[1].Demand, x.Stops[4].Demand = 1000, 1000, -1000 })
	s = api.State{At: 4, Car: 1}
	mustMove(t, "1000 at once", much, s, 1, api.State{At: 1, Car: 1, Time: 41, Load: 1000, Must: bits(1), May: bits(1), On: bits(1)}, 40)
	s.Load = 1
	mustNot(t, "1001", much, s, 1)
	s.Load = 995
	mustBe(t, "1000 together", much, s, 3, true)
	s.Load = 996
	mustNot(t, "1001 together", much, s, 3)
	mustNot(t, "too much at Root", with(three(), func(x *api.Instance) { x.Room = 4 }), api.State{Car: 1, Time: 5}, 3)
}

// P10.2: b just at Due, and one above: of what is taken in, and of what is brought.
func TestDue(t *testing.T) {
	for _, c := range []struct{ at, j, far int }{{4, 1, 40}, {0, 1, 10}, {0, 3, 30}, {1, 2, 10}, {1, 4, 40}, {3, 6, 40}, {6, 4, 20}} {
		x := three()
		x.Stops[c.j].Due = 77 + c.far
		s := api.State{At: c.at, Car: 1, Time: 77, May: bits(1, 2, 3)}
		mustBe(t, "just at Due", x, s, c.j, true)
		there, far, _ := state.Move(x, s, c.j)
		if there.Time != 77+c.far+x.Stops[c.j].Service || far != c.far {
			t.Errorf("from %+v to %d: %+v, %d", s, c.j, there, far)
		}
		s.Time = 78
		mustNot(t, "one above", x, s, c.j)
		s.Time = 0
		mustBe(t, "long ahead", x, s, c.j, true)
		// Where it must wait, its Ready counts, which is never above its Due.
		x.Stops[c.j].Ready = x.Stops[c.j].Due
		mustBe(t, "Ready is Due", x, s, c.j, true)
		s.Time = 77
		mustBe(t, "Ready is Due, and it comes just then", x, s, c.j, true)
		s.Time = 78
		mustNot(t, "Ready is Due, and it comes one later", x, s, c.j)
	}
}

// P10.2: it waits where it comes below Ready, and not where it comes at it or above it.
func TestReady(t *testing.T) {
	for _, c := range []struct{ j, far, service int }{{1, 40, 1}, {3, 20, 3}, {5, 10, 5}, {6, 20, 6}} {
		for _, d := range []int{-30, -1, 0, 1, 30} {
			x := three()
			x.Stops[c.j].Ready = 100
			s := api.State{At: 4, Car: 1, Time: 100 - c.far + d, May: bits(1, 2, 3)}
			got, far, is := state.Move(x, s, c.j)
			if want := 100 + max(d, 0) + c.service; !is || got.Time != want || far != c.far {
				t.Errorf("%d off 100 to %d: %+v, %d, %t; want Time %d", d, c.j, got, far, is, want)
			}
		}
	}
	x := three()
	x.Stops[2].Ready, x.Stops[2].Due, x.Stops[2].Service = api.MaxTime, api.MaxTime, 1000
	mustMove(t, "the latest time", x, api.State{Car: 1, Time: 5}, 2, api.State{At: 2, Car: 1, Time: api.MaxTime + 1000, Load: 4, First: 2, Must: bits(2), May: bits(2), On: bits(2)}, 20)
}

// P10.2: at the yard what is taken in must be above First; elsewhere First does not count, and stays.
func TestFirst(t *testing.T) {
	x := three()
	for j := 1; j <= 3; j++ {
		for _, first := range []int{math.MinInt, -1, 0, 1, 2, 3, 4, 64, math.MaxInt} {
			s := api.State{Car: 1, First: first}
			mustBe(t, "at the yard", x, s, j, j > first)
			if there, _, is := state.Move(x, s, j); is && there.First != j {
				t.Errorf("from %+v to %d: %+v", s, j, there)
			}
			s.At = 5
			mustBe(t, "away from it", x, s, j, true)
			if there, _, _ := state.Move(x, s, j); there.First != first {
				t.Errorf("from %+v to %d: %+v", s, j, there)
			}
			s.May = bits(j)
			if there, _, is := state.Move(x, s, 3+j); !is || there.First != first {
				t.Errorf("from %+v to %d: %+v, %t", s, 3+j, there, is)
			}
			if there, _, is := state.Move(x, s, 0); !is || there.First != first {
				t.Errorf("from %+v to 0: %+v, %t", s, there, is)
			}
		}
	}
	mustMoves(t, "the first", x, api.State{Car: 2, Time: 5, First: 1}, 2, 3)
	mustMoves(t, "the last", x, api.State{Car: 2, Time: 5, First: 3})
}

// P10.2: what is brought: not from the yard, not if it is in Must, and just where what is taken in is in May; On does not count.
func TestBringSets(t *testing.T) {
	x := three()
	for j := 4; j <= 6; j++ {
		for at := range 7 {
			s := api.State{At: at, Car: 1, Must: bits(j - 3), May: bits(j - 3), On: bits(j - 3)}
			mustBe(t, "taken in surely", x, s, j, at != 0)
			s.On = 0
			mustBe(t, "not in On", x, s, j, at != 0)
			s.Must = 0
			mustBe(t, "in May, not in Must", x, s, j, at != 0)
			s.May |= bits(j)
			mustBe(t, "itself in May", x, s, j, at != 0)
			s.Must = bits(j)
			mustBe(t, "itself in Must", x, s, j, false)
			s.Must, s.May = bits(j-3), 0
			mustBe(t, "in Must, not in May", x, s, j, false)
			s.On = bits(j - 3)
			mustBe(t, "in On, not in May", x, s, j, false)
			s.Must, s.May = 0, math.MaxUint64&^bits(j-3)
			mustBe(t, "all others in May", x, s, j, false)
			s.Must, s.May = math.MaxUint64&^bits(j), bits(j-3)
			mustBe(t, "all others in Must", x, s, j, at != 0)
		}
	}
	s := api.State{At: 2, Car: 1, Time: 1, Load: 9, First: -8, Must: bits(0, 3, 62), May: bits(2, 41), On: bits(1, 2, 3, 5, 51)}
	mustMove(t, "odd sets", x, s, 5, api.State{At: 5, Car: 1, Time: 46, Load: 5, First: -8, Must: bits(0, 3, 5, 62), May: bits(2, 5, 41), On: bits(1, 3, 5, 51)}, 40)
	s.On = bits(5)
	mustMove(t, "not in On", x, s, 5, api.State{At: 5, Car: 1, Time: 46, Load: 5, First: -8, Must: bits(0, 3, 5, 62), May: bits(2, 5, 41), On: bits(5)}, 40)
}

// P10.2: Load does not fall below 0 where something is brought; Room does not count there.
func TestBringLoad(t *testing.T) {
	x := three()
	for _, c := range []struct{ load, want int }{{0, 0}, {1, 0}, {3, 0}, {4, 0}, {5, 1}, {8, 4}, {9, 5}, {13, 9}, {1000, 996}} {
		s := api.State{At: 2, Car: 1, Load: c.load, May: bits(2), On: bits(2)}
		mustMove(t, fmt.Sprint("Load ", c.load), x, s, 5, api.State{At: 5, Car: 1, Time: 45, Load: c.want, Must: bits(5), May: bits(2, 5)}, 40)
	}
}

// P10.2: the yard: away from it, with nothing on the car, with one more car, with a stop left, in time.
func TestYard(t *testing.T) {
	x := three()
	s := api.State{At: 6, Car: 1, Time: 930, Load: 7, First: 2, Must: bits(2, 5, 40), May: bits(1, 2, 3, 5, 6)}
	mustMove(t, "just in time", x, s, 0, api.State{Car: 2, Time: 5, First: 2, Must: bits(2, 5, 40), May: bits(1, 2, 3, 5, 6)}, 70)
	mustNot(t, "one later", x, but(s, func(s *api.State) { s.Time++ }), 0)
	mustNot(t, "at the yard", x, but(s, func(s *api.State) { s.At = 0 }), 0)
	mustNot(t, "the last car", x, but(s, func(s *api.State) { s.Car = 2 }), 0)
	for i := range 64 {
		mustNot(t, "something on it", x, but(s, func(s *api.State) { s.On = bits(i) }), 0)
	}
	mustNot(t, "all seen", x, but(s, func(s *api.State) { s.Must = bits(1, 2, 3, 4, 5, 6) }), 0)
	mustNot(t, "all seen, and more", x, but(s, func(s *api.State) { s.Must = math.MaxUint64 }), 0)
	for i := 1; i <= 6; i++ {
		mustBe(t, "all but one seen", x, but(s, func(s *api.State) { s.Must = bits(1, 2, 3, 4, 5, 6) &^ bits(i) }), 0, true)
		mustBe(t, "all but one seen, and more", x, but(s, func(s *api.State) { s.Must = math.MaxUint64 &^ bits(i) }), 0, true)
	}
	mustBe(t, "all in May", x, but(s, func(s *api.State) { s.May = bits(1, 2, 3, 4, 5, 6) }), 0, true)
	mustBe(t, "nothing in May", x, but(s, func(s *api.State) { s.May = 0 }), 0, true)
	// A car that comes back ahead of the yard's Ready need not wait for it.
	early := with(x, func(x *api.Instance) { x.Stops[0].Ready, x.Stops[0].Due = 400, 400 })
	s.Time = 0
	mustMove(t, "ahead of Ready", early, s, 0, api.State{Car: 2, Time: 400, First: 2, Must: bits(2, 5, 40), May: bits(1, 2, 3, 5, 6)}, 70)
	s.Time = 330
	mustBe(t, "just at Due", early, s, 0, true)
	s.Time = 331
	mustNot(t, "one above", early, s, 0)
	for cars := 1; cars <= 8; cars++ {
		for car := 1; car <= cars; car++ {
			y := with(three(), func(x *api.Instance) { x.Cars = cars })
			mustBe(t, fmt.Sprint("car ", car, " of ", cars), y, api.State{At: 5, Car: car, Must: 6}, 0, car < cars)
		}
	}
}

// P10.2: where j can't be next, s itself is answered, whatever it holds.
func TestStateItself(t *testing.T) {
	x := three()
	for _, s := range []api.State{
		{},
		{At: 3, Car: 2, Time: 700, Load: 1000, First: -5, Must: math.MaxUint64, May: 1, On: math.MaxUint64},
		{At: math.MinInt, Car: math.MaxInt, Time: math.MinInt, Load: math.MaxInt, First: math.MinInt, Must: 1, May: 2, On: 4},
		{At: 4, Car: 1, Time: 1 << 30, Load: 1000, First: math.MaxInt, Must: 0, May: math.MaxUint64, On: 0},
	} {
		for j := -3; j < 70; j++ {
			mustNot(t, "s itself", x, s, j)
		}
	}
}

// P10.3: just those that can be next, rising; also where none can.
func TestMoves(t *testing.T) {
	x := three()
	mustMoves(t, "Root", x, state.Root(x), 1, 2, 3)
	mustMoves(t, "all", x, open(), 0, 1, 2, 3, 4, 5, 6)
	mustMoves(t, "behind 3", x, followed(t, x, 3), 1, 6)
	mustMoves(t, "behind 1 2", x, followed(t, x, 1, 2), 4, 5)
	mustMoves(t, "behind 1 4", x, followed(t, x, 1, 4), 0, 2, 3)
	mustMoves(t, "behind 1 4 0", x, followed(t, x, 1, 4, 0), 2, 3)
	mustMoves(t, "behind 2 5 0 3", x, followed(t, x, 2, 5, 0, 3), 1, 6)
	mustMoves(t, "behind 2 5 0 3 6", x, followed(t, x, 2, 5, 0, 3, 6), 1)
	mustMoves(t, "behind all", x, followed(t, x, 2, 5, 1, 4, 3, 6))
	mustMoves(t, "too late", x, api.State{At: 4, Car: 1, Time: 1001, May: 254})
	mustMoves(t, "too late for stops", x, api.State{At: 4, Car: 1, Time: 601, May: 254}, 0)
	mustMoves(t, "no pairs", noPairs(), state.Root(noPairs()))
	mustMoves(t, "the third pair only, and that too much", with(x, func(x *api.Instance) { x.Room = 4 }), api.State{Car: 2, First: 2, Must: bits(1, 2, 4, 5), May: bits(1, 2, 4, 5)})
	y := sixteen()
	mustMoves(t, "16 pairs", y, state.Root(y), row(1, 16)...)
	mustMoves(t, "16 pairs, all taken in", y, followed(t, y, row(1, 16)...), row(17, 32)...)
	mustMoves(t, "16 pairs, a pair seen", y, followed(t, y, 7, 23), append(append([]int{0}, row(1, 6)...), row(8, 16)...)...)
}

// P10.3: without pairs all is ended at Root, and nowhere else.
func TestEndWithoutPairs(t *testing.T) {
	x := noPairs()
	root := api.State{Car: 1, Time: 6}
	mustEnd(t, "Root", x, root, 0, true)
	for what, s := range map[string]api.State{
		"noughts":       {},
		"another At":    {At: 1, Car: 1, Time: 6},
		"At below 0":    {At: -1, Car: 1, Time: 6},
		"another Car":   {Car: 2, Time: 6},
		"no Car":        {Time: 6},
		"sooner":        {Car: 1, Time: 5},
		"later":         {Car: 1, Time: 7},
		"another Load":  {Car: 1, Time: 6, Load: 1},
		"another First": {Car: 1, Time: 6, First: 1},
		"another Must":  {Car: 1, Time: 6, Must: 1},
		"another May":   {Car: 1, Time: 6, May: 1},
		"another On":    {Car: 1, Time: 6, On: 1},
		"Must and May":  {Car: 1, Time: 6, Must: 2, May: 2},
	} {
		mustEnd(t, what, x, s, 0, false)
		mustMoves(t, what, x, s)
	}
	// A yard that is open for but a moment is enough.
	x.Stops[0].Ready = 7
	mustEnd(t, "a moment", x, api.State{Car: 1, Time: 7}, 0, true)
	mustEnd(t, "Root of what may not be", api.Instance{}, api.State{}, 0, false)
	mustEnd(t, "Root of what may not be", api.Instance{Stops: []api.Stop{{}}}, api.State{}, 0, false)
	mustEnd(t, "Root of one pair", example(), state.Root(example()), 0, false)
	mustEnd(t, "Root of one pair, and all seen", example(), api.State{Car: 1, Must: 6, May: 6}, 0, false)
}

// P10.3: End at each edge.
func TestEnd(t *testing.T) {
	x := three()
	all := bits(1, 2, 3, 4, 5, 6)
	s := api.State{At: 5, Car: 2, Time: 940, Must: all, May: all}
	mustEnd(t, "just in time", x, s, 60, true)
	mustEnd(t, "one later", x, but(s, func(s *api.State) { s.Time++ }), 0, false)
	mustEnd(t, "at the yard", x, but(s, func(s *api.State) { s.At, s.Time = 0, 0 }), 0, false)
	for i := range 64 {
		mustEnd(t, "something on it", x, but(s, func(s *api.State) { s.On = bits(i) }), 0, false)
	}
	for i := 1; i <= 6; i++ {
		mustEnd(t, "a stop not in May", x, but(s, func(s *api.State) { s.May &^= bits(i) }), 0, false)
		mustEnd(t, "a stop in neither", x, but(s, func(s *api.State) { s.May, s.Must = all&^bits(i), all&^bits(i) }), 0, false)
		mustEnd(t, "a stop not in Must", x, but(s, func(s *api.State) { s.Must &^= bits(i) }), 60, true)
		mustEnd(t, "other stops", x, but(s, func(s *api.State) { s.May = math.MaxUint64 &^ bits(i) }), 0, false)
	}
	mustEnd(t, "all in May, none in Must", x, but(s, func(s *api.State) { s.Must = 0 }), 60, true)
	mustEnd(t, "more in May", x, but(s, func(s *api.State) { s.May = math.MaxUint64 }), 60, true)
	mustEnd(t, "a Load that is not known off", x, but(s, func(s *api.State) { s.Load = 1000 }), 60, true)
	mustEnd(t, "any First", x, but(s, func(s *api.State) { s.First = math.MinInt }), 60, true)
	mustEnd(t, "the first car", x, but(s, func(s *api.State) { s.Car = 1 }), 60, true)
	mustEnd(t, "at a stop where something is taken in", x, but(s, func(s *api.State) { s.At = 1 }), 10, true)
	early := with(x, func(x *api.Instance) { x.Stops[0].Ready, x.Stops[0].Due = 700, 700 })
	mustEnd(t, "ahead of the yard's Ready", early, but(s, func(s *api.State) { s.Time = 0 }), 60, true)
	mustEnd(t, "just in time", early, but(s, func(s *api.State) { s.Time = 640 }), 60, true)
	mustEnd(t, "one later", early, but(s, func(s *api.State) { s.Time = 641 }), 0, false)
	y := sixteen()
	s = api.State{At: 32, Car: 1, Time: api.MaxTime - 3200, May: 1<<33 - 2}
	mustEnd(t, "16 pairs", y, s, 3200, true)
	mustEnd(t, "16 pairs, one later", y, but(s, func(s *api.State) { s.Time++ }), 0, false)
	mustEnd(t, "16 pairs, the last one not", y, but(s, func(s *api.State) { s.May &^= bits(32) }), 0, false)
	mustEnd(t, "16 pairs, the first one not", y, but(s, func(s *api.State) { s.May &^= bits(1) }), 0, false)
}

// P10.2, P10.3: many states of many instances, held against the chapter's words.
func TestManyStates(t *testing.T) {
	s := lcg(1)
	moves, ends := map[int]int{}, 0
	for turn := range 400 {
		pairs := turn % 17
		x := scattered(&s, pairs, []int{3, 40, 10001}[turn%3], 5+s.below(10), []int{20, 100, 40000}[turn%3])
		for range 60 {
			y := someState(&s, x)
			moves[min(3, mustBeAsSaid(t, "many", x, y))]++
			if _, is := state.End(x, y); is {
				ends++
			}
		}
	}
	if moves[0] < 1000 || moves[1] < 1000 || moves[2] < 1000 || moves[3] < 1000 || ends < 500 {
		t.Errorf("too few of a kind: %v, %d", moves, ends)
	}
}

// P10.4: of no path, Root; of an instance that may not be, ErrArg, also where the path can't be followed.
func TestFollowOfNoPath(t *testing.T) {
	for _, path := range [][]int{nil, {}} {
		mustFollow(t, "no path", example(), path, api.State{Car: 1}, 0, api.OK)
		mustFollow(t, "no path", three(), path, api.State{Car: 1, Time: 5}, 0, api.OK)
		mustFollow(t, "no path", noPairs(), path, api.State{Car: 1, Time: 6}, 0, api.OK)
	}
	for _, x := range wrongOnes(t) {
		for _, path := range [][]int{nil, {}, {0}, {1}, {2}, {1, 2}, {1, 1}, {-1}, {40}, {math.MinInt}, {math.MaxInt}, row(0, 70)} {
			mustFail(t, "may not be", x, path, api.ErrArg)
		}
	}
	for _, j := range []int{-1, 0, 1, 2, math.MinInt, math.MaxInt} {
		mustFail(t, "no pairs", noPairs(), []int{j}, api.ErrNone)
	}
}

// P10.4: a number that can't be next, as the first, a middle or the last one.
func TestFollowOfWhatCantBe(t *testing.T) {
	x := three()
	for _, path := range [][]int{
		{1, 4, 2, 5, 3, 6}, {1, 2, 4, 5, 0, 3, 6}, {1, 2, 5, 4, 0, 3, 6}, {2, 5, 0, 3, 6, 1, 4}, {3, 6, 2, 5, 1, 4},
	} {
		s, cost, err := state.Follow(x, path)
		if err != api.OK || s.Must != bits(1, 2, 3, 4, 5, 6) {
			t.Fatalf("Follow %d: %+v, %d, %d", path, s, cost, err)
		}
		for i := range len(path) + 1 {
			for _, j := range []int{-1, 7, 64, math.MinInt, math.MaxInt} {
				mustFail(t, "no stop", x, slices.Insert(slices.Clone(path), i, j), api.ErrNone)
			}
			if i > 0 && path[i-1] != 0 {
				mustFail(t, "twice", x, slices.Insert(slices.Clone(path), i, path[i-1]), api.ErrNone)
			}
			mustFail(t, "the yard twice", x, slices.Insert(slices.Clone(path), i, 0, 0), api.ErrNone)
			mustFail(t, "the first again", x, append(slices.Clone(path[:i]), path[0], path[0]), api.ErrNone)
		}
	}
	mustFail(t, "the yard first", x, []int{0}, api.ErrNone)
	mustFail(t, "brought first", x, []int{4}, api.ErrNone)
	mustFail(t, "brought, not taken in", x, []int{1, 5}, api.ErrNone)
	mustFail(t, "too full", x, []int{1, 2, 3}, api.ErrNone)
	mustFail(t, "the yard with something on it", x, []int{1, 0}, api.ErrNone)
	mustFail(t, "the yard at the end", x, []int{1, 4, 2, 5, 3, 6, 0}, api.ErrNone)
	mustFail(t, "too many cars", x, []int{1, 4, 0, 2, 5, 0}, api.ErrNone)
	mustFail(t, "first stops that do not grow", x, []int{2, 5, 0, 1}, api.ErrNone)
	mustFail(t, "too late", with(x, func(x *api.Instance) { x.Stops[6].Due = 74 }), []int{3, 6}, api.ErrNone)
}

// P10.4: paths with the yard in them, written out.
func TestFollowPastTheYard(t *testing.T) {
	x := three()
	mustFollow(t, "1 4 0", x, []int{1, 4, 0}, api.State{Car: 2, Time: 5, First: 1, Must: bits(1, 4), May: bits(1, 4)}, 10+40+50, api.OK)
	mustFollow(t, "1 4 0 2", x, []int{1, 4, 0, 2}, api.State{At: 2, Car: 2, Time: 27, Load: 4, First: 2, Must: bits(1, 2, 4), May: bits(1, 2, 4), On: bits(2)}, 10+40+50+20, api.OK)
	mustFollow(t, "1 4 0 3 6 2 5", x, []int{1, 4, 0, 3, 6, 2, 5}, api.State{At: 5, Car: 2, Time: 5 + 30 + 3 + 40 + 6 + 50 + 2 + 40 + 5, First: 3, Must: bits(1, 2, 3, 4, 5, 6), May: bits(1, 2, 3, 4, 5, 6)}, 100+30+40+50+40, api.OK)
	y := with(x, func(x *api.Instance) { x.Cars = 3 })
	mustFollow(t, "three cars", y, []int{1, 4, 0, 2, 5, 0, 3, 6}, api.State{At: 6, Car: 3, Time: 84, First: 3, Must: bits(1, 2, 3, 4, 5, 6), May: bits(1, 2, 3, 4, 5, 6)}, 100+120+70, api.OK)
}

// P10.4, R1: paths that are long, of all kinds of numbers.
func TestFollowOfLongPaths(t *testing.T) {
	x := sixteen()
	mustFollow(t, "32 stops", x, row(1, 32), api.State{At: 32, Car: 1, Time: 9 + 3200, First: 1, Must: 1<<33 - 2, May: 1<<33 - 2}, 3200, api.OK)
	mustFail(t, "33 numbers", x, row(1, 33), api.ErrNone)
	var path []int
	for i := 1; i <= 8; i++ {
		if i > 1 {
			path = append(path, 0)
		}
		path = append(path, i, 16+i, 8+i, 24+i)
	}
	s, _, err := state.Follow(x, path)
	if err != api.OK || s.Car != 8 || s.At != 32 || s.First != 8 || s.Must != 1<<33-2 {
		t.Errorf("8 cars: %+v, %d", s, err)
	}
	mustFail(t, "many yards", x, make([]int, 1<<20), api.ErrNone)
	mustFail(t, "many numbers", x, row(1, 1<<20), api.ErrNone)
	many := make([]int, 1<<20)
	for i := range many {
		many[i] = 1 - i%2
	}
	mustFail(t, "there and back", x, many, api.ErrNone)
}

// P10.4: many paths, held against the chapter's words move by move; noughts, from where one can't be made on.
func TestFollowOfManyPaths(t *testing.T) {
	s := lcg(2)
	seen := map[api.Errno]int{}
	for turn := range 1500 {
		pairs := 1 + s.below(5)
		x := scattered(&s, pairs, 6, 5+s.below(10), 60)
		want, cost, err := api.State{Car: 1, Time: x.Stops[0].Ready}, 0, api.OK
		var path []int
		for range 1 + s.below(2*pairs+2) {
			j := s.below(2*pairs + 1)
			if l := state.Moves(x, want); err == api.OK && len(l) > 0 && s.below(10) > 0 {
				j = l[s.below(len(l))]
			}
			there, far, is := moved(x, want, j)
			if !is {
				err = api.ErrNone
			}
			want, cost, path = there, cost+far, append(path, j)
		}
		seen[err]++
		what := fmt.Sprint("turn ", turn)
		if err != api.OK {
			mustFail(t, what, x, path, err)
			continue
		}
		mustFollow(t, what, x, path, want, cost, api.OK)
	}
	if seen[api.OK] < 200 || seen[api.ErrNone] < 200 {
		t.Errorf("too few of a kind: %v", seen)
	}
}

// costOf is what a plan costs whose tour is followed and ended.
func costOf(x api.Instance, p api.Plan) (int, bool) {
	s, cost, err := state.Follow(x, tour.Join(p))
	far, is := state.End(x, s)
	if err != api.OK || !is {
		return 0, false
	}
	return cost + far, true
}

// allPlans are all plans in which each stop from 1 to 2n is just once, in whatever order, with routes sorted by their first stops.
func allPlans(n int, yield func(p api.Plan)) {
	var goOn func(p api.Plan, rest []int)
	goOn = func(p api.Plan, rest []int) {
		if len(rest) == 0 {
			yield(p)
			return
		}
		for i, stop := range rest {
			less := slices.Delete(slices.Clone(rest), i, i+1)
			last := len(p.Routes) - 1
			if last < 0 || stop > p.Routes[last][0] {
				goOn(api.Plan{Routes: append(slices.Clone(p.Routes), []int{stop})}, less)
			}
			if last >= 0 {
				longer := slices.Clone(p.Routes)
				longer[last] = append(slices.Clone(longer[last]), stop)
				goOn(api.Plan{Routes: longer}, less)
			}
		}
	}
	goOn(api.Plan{}, row(1, 2*n))
}

// P10.5: each plan of few pairs: it may be just if its tour can be followed and ended, and costs as much.
func TestAllPlans(t *testing.T) {
	s := lcg(3)
	seen := map[bool]int{}
	routes := map[int]int{}
	for turn := range 60 {
		pairs := turn % 4
		x := scattered(&s, pairs, 6, 5+s.below(8), 40+s.below(60))
		allPlans(pairs, func(p api.Plan) {
			want, err := plan.Cost(x, p)
			got, is := costOf(x, p)
			if got != want || is != (err == api.OK) {
				t.Errorf("%d: %d, %t; the plan costs %d, %d; of %+v", p.Routes, got, is, want, err, x)
			}
			seen[is]++
			if is {
				routes[len(p.Routes)]++
			}
		})
	}
	if seen[true] < 200 || seen[false] < 1000 || routes[1] < 50 || routes[2] < 50 || routes[3] < 10 {
		t.Errorf("too few of a kind: %v, %v", seen, routes)
	}
}

// P10.5: all that can be followed and ended, of few pairs, is the tour of a plan that may be, and costs as much; all such plans are found so.
func TestAllPaths(t *testing.T) {
	s := lcg(4)
	ends := 0
	for turn := range 60 {
		pairs := turn % 4
		x := scattered(&s, pairs, 6, 5+s.below(8), 40+s.below(60))
		plans := 0
		allPlans(pairs, func(p api.Plan) {
			if _, err := plan.Cost(x, p); err == api.OK {
				plans++
			}
		})
		found := 0
		var goOn func(s api.State, path []int, cost int)
		goOn = func(s api.State, path []int, cost int) {
			if far, is := state.End(x, s); is {
				found++
				mustBePlan(t, x, path, cost+far)
			}
			for _, j := range state.Moves(x, s) {
				there, far, is := state.Move(x, s, j)
				if !is {
					t.Fatalf("from %+v to %d: it can't be; of %+v", s, j, x)
				}
				goOn(there, append(slices.Clone(path), j), cost+far)
			}
		}
		goOn(state.Root(x), nil, 0)
		if found != plans {
			t.Errorf("%d paths that end, %d plans; of %+v", found, plans, x)
		}
		ends += found
	}
	if ends < 500 {
		t.Errorf("too few paths that end: %d", ends)
	}
}

// mustBePlan asks that a path that was ended is the tour of a plan that costs just that.
func mustBePlan(t *testing.T, x api.Instance, path []int, cost int) {
	t.Helper()
	p, err := tour.Split(path)
	if err != api.OK {
		t.Errorf("Split(%d): error %d; of %+v", path, err, x)
		return
	}
	if n, err := plan.Cost(x, p); n != cost || err != api.OK {
		t.Errorf("%d costs %d, %d; followed %d; of %+v", p.Routes, n, err, cost, x)
	}
	if n, is := costOf(x, p); n != cost || !is {
		t.Errorf("%d followed again costs %d, %t; it was %d; of %+v", p.Routes, n, is, cost, x)
	}
}

// P10.5: plans of more pairs, as moves by chance make them, of one route and of several.
func TestLongPaths(t *testing.T) {
	s := lcg(5)
	routes := map[int]int{}
	for turn := range 600 {
		pairs := 1 + s.below(16)
		x := scattered(&s, pairs, 20, 5+s.below(30), 40)
		x.Cars = 8
		for i := range x.Stops {
			x.Stops[i].Due = 3000
		}
		y, cost, path := state.Root(x), 0, []int(nil)
		for {
			if far, is := state.End(x, y); is {
				mustBePlan(t, x, path, cost+far)
				p, _ := tour.Split(path)
				routes[len(p.Routes)]++
				break
			}
			l := state.Moves(x, y)
			if len(l) == 0 {
				break
			}
			j := l[s.below(len(l))]
			switch {
			// Sometimes each car is but for some pairs: it brings what it holds, and comes back.
			case turn%3 > 0 && y.On != 0 && s.below(turn%3) == 0:
				j = l[len(l)-1]
			case turn%3 > 0 && (l[0] == 0 || y.At == 0):
				j = l[0]
			}
			there, far, _ := state.Move(x, y, j)
			y, cost, path = there, cost+far, append(path, j)
		}
	}
	if routes[1] < 20 || routes[2] < 20 || routes[4] < 20 || routes[8] < 20 {
		t.Errorf("too few of a kind: %v", routes)
	}
}

// R3: what is handed in stays as it was, behind its end, too, and what is answered shares nothing with it.
func TestSharesNothingWithWhatIsHandedIn(t *testing.T) {
	behind := api.Stop{X: 6, Y: 5, Demand: 4, Ready: 3, Due: 2, Service: 1}
	x := example()
	stops, path := append(x.Stops, behind), []int{1, 2, -9, -9}
	x.Stops = stops[:3]
	s, cost, err := state.Follow(x, path[:2])
	root := state.Root(x)
	l := state.Moves(x, root)
	if !reflect.DeepEqual(x, example()) || stops[3] != behind || !slices.Equal(path, []int{1, 2, -9, -9}) {
		t.Fatalf("the stops are %+v now, the path %d", stops, path)
	}
	for i := range stops {
		stops[i] = api.Stop{X: 9, Y: 9, Demand: 9, Ready: 9, Due: 9, Service: 9}
		path[i] = 9
	}
	if s != (api.State{At: 2, Car: 1, Time: 10, First: 1, Must: 6, May: 6}) || cost != 8 || err != api.OK || !slices.Equal(l, []int{1}) || root != (api.State{Car: 1}) {
		t.Errorf("a change of what was handed in made %+v, %d, %d, %d, %+v", s, cost, err, l, root)
	}
}

// R3: no answer shares anything with another one.
func TestAnswersShareNothing(t *testing.T) {
	x := three()
	want := []int{0, 1, 2, 3, 4, 5, 6}
	l, other := state.Moves(x, open()), state.Moves(x, open())
	clear(other[:cap(other)])
	if !slices.Equal(l, want) || !reflect.DeepEqual(x, three()) {
		t.Errorf("a change of one answer made another one %d, and %+v", l, x)
	}
	if again := state.Moves(x, open()); !slices.Equal(again, want) {
		t.Errorf("a change of one answer made the next one %d", again)
	}
}

// R5: no answer hangs on what was asked before.
func TestAskedAgain(t *testing.T) {
	s := lcg(6)
	for range 50 {
		x := scattered(&s, 16, 50, 20, 300)
		y := someState(&s, x)
		mustBeAsSaid(t, "between", x, y)
		state.Follow(x, row(1, 16))
		state.Follow(api.Instance{Pairs: 3}, []int{1})
		TestExample(t)
		mustFail(t, "noughts", api.Instance{}, []int{1, 2}, api.ErrArg)
		mustMoves(t, "open", three(), open(), 0, 1, 2, 3, 4, 5, 6)
	}
}
