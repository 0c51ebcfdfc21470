package sched_test

import (
	"fmt"
	"math"
	"reflect"
	"slices"
	"testing"

	"haulier/api"
	"haulier/inst"
	"haulier/plane"
	"haulier/sched"
)

// lcg is a row of numbers that are spread out, the same in each run.
type lcg uint64

func (s *lcg) below(n int) int {
	*s = *s*6364136223846793005 + 1442695040888963407
	// The low bits of such a row repeat soon: only the high ones are taken.
	return int(uint64(*s) >> 33 % uint64(n))
}

// example is chapter 5's: one pair.
func example() api.Instance {
	return api.Instance{Pairs: 1, Cars: 1, Room: 5, Stops: []api.Stop{
		{X: 0, Y: 0, Demand: 0, Ready: 0, Due: 100, Service: 0},
		{X: 3, Y: 0, Demand: 2, Ready: 0, Due: 50, Service: 1},
		{X: 0, Y: 4, Demand: -2, Ready: 0, Due: 90, Service: 1},
	}}
}

// two are two pairs on a line, of 3 and of 4 things, for which there is just room.
func two() api.Instance {
	return api.Instance{Pairs: 2, Cars: 1, Room: 7, Stops: []api.Stop{
		{X: 0, Due: 1000},
		{X: 10, Demand: 3, Due: 1000},
		{X: 20, Demand: 4, Due: 1000},
		{X: 11, Demand: -3, Due: 1000},
		{X: 21, Demand: -4, Due: 1000},
	}}
}

// sixteen are 16 pairs on a line, 100 from stop to stop, each of one thing, for all of which there is just room.
func sixteen() api.Instance {
	x := api.Instance{Pairs: 16, Cars: 8, Room: 16}
	for i := range 33 {
		s := api.Stop{X: 100 * i, Due: api.MaxTime, Service: 2}
		switch {
		case i == 0:
			s.Service = 0
		case i <= 16:
			s.Demand = 1
		default:
			s.Demand = -1
		}
		x.Stops = append(x.Stops, s)
	}
	return x
}

// with is x after a change.
func with(x api.Instance, change func(x *api.Instance)) api.Instance {
	x = clone(x)
	change(&x)
	return x
}

func clone(x api.Instance) api.Instance {
	x.Stops = slices.Clone(x.Stops)
	return x
}

// row is the numbers from least to most.
func row(least, most int) []int {
	var l []int
	for n := least; n <= most; n++ {
		l = append(l, n)
	}
	return l
}

func times(l ...[3]int) []api.Time {
	var all []api.Time
	for _, t := range l {
		all = append(all, api.Time{Come: t[0], Begin: t[1], Leave: t[2]})
	}
	return all
}

// mustAnswer asks for just these answers of Times and of Loads, and that what is handed in stays as it was.
func mustAnswer(t *testing.T, what string, x api.Instance, route []int, l []api.Time, loads []int, far int, err api.Errno) {
	t.Helper()
	before, same := clone(x), slices.Clone(route)
	gotL, gotFar, gotErr := sched.Times(x, route)
	if !slices.Equal(gotL, l) || gotFar != far || gotErr != err {
		t.Errorf("%s: Times of %d: %v, %d, %d; want %v, %d, %d; of %+v", what, route, gotL, gotFar, gotErr, l, far, err, x)
	}
	if got := sched.Loads(x, route); !slices.Equal(got, loads) {
		t.Errorf("%s: Loads of %d: %d, want %d; of %+v", what, route, got, loads, x)
	}
	if !reflect.DeepEqual(x, before) || !slices.Equal(route, same) {
		t.Errorf("%s: it is now %+v and %d, it was %+v and %d", what, x, route, before, same)
	}
}

// mustFail asks for an error with noughts beside it.
func mustFail(t *testing.T, what string, x api.Instance, route []int, err api.Errno) {
	t.Helper()
	mustAnswer(t, what, x, route, nil, nil, 0, err)
}

// mustBeJust asks for these answers, and for an error, if one of x's numbers is one less.
func mustBeJust(t *testing.T, what string, x *api.Instance, route []int, number *int, l []api.Time, loads []int, far int, err api.Errno) {
	t.Helper()
	mustAnswer(t, what+", just so", *x, route, l, loads, far, api.OK)
	*number--
	mustFail(t, what+", one less", *x, route, err)
	*number++
}

// held is what a car holds that has been at these stops.
func held(x api.Instance, route []int) int {
	sum := 0
	for _, stop := range route {
		sum += x.Stops[stop].Demand
	}
	return sum
}

// lastTime is when it is at the last of these stops, gone over from the yard each time anew; of none: when it leaves the yard.
func lastTime(x api.Instance, route []int) api.Time {
	if len(route) == 0 {
		return api.Time{Leave: x.Stops[0].Ready}
	}
	ahead, stop := 0, route[len(route)-1]
	if len(route) > 1 {
		ahead = route[len(route)-2]
	}
	come := lastTime(x, route[:len(route)-1]).Leave + plane.Far(x.Stops[ahead], x.Stops[stop])
	begin := come
	if x.Stops[stop].Ready > come {
		begin = x.Stops[stop].Ready
	}
	return api.Time{Come: come, Begin: begin, Leave: begin + x.Stops[stop].Service}
}

// errorOf is the first thing that is wrong with a route, as P7.1 tells it.
func errorOf(x api.Instance, route []int) api.Errno {
	if !inst.May(x) {
		return api.ErrArg
	}
	n := x.Pairs
	for k, stop := range route {
		ahead, upTo := route[:k], route[:k+1]
		switch {
		case stop < 1 || stop > 2*n:
			return api.ErrArg
		case slices.Contains(ahead, stop):
			return api.ErrTwice
		case stop > n && !slices.Contains(ahead, stop-n):
			return api.ErrOrder
		case held(x, upTo) > x.Room:
			return api.ErrFull
		case lastTime(x, upTo).Begin > x.Stops[stop].Due:
			return api.ErrLate
		}
	}
	for _, stop := range route {
		if stop <= n && !slices.Contains(route, stop+n) {
			return api.ErrOrder
		}
	}
	if lastTime(x, append(slices.Clone(route), 0)).Come > x.Stops[0].Due {
		return api.ErrLate
	}
	return api.OK
}

// mustBeAsSaid holds Times and Loads against the chapter's words, and answers the error.
func mustBeAsSaid(t *testing.T, what string, x api.Instance, route []int) api.Errno {
	t.Helper()
	err := errorOf(x, route)
	if err != api.OK {
		mustFail(t, what, x, route, err)
		return err
	}
	var l []api.Time
	var loads []int
	far, at := 0, 0
	for k, stop := range route {
		l = append(l, lastTime(x, route[:k+1]))
		loads = append(loads, held(x, route[:k+1]))
		far += plane.Far(x.Stops[at], x.Stops[stop])
		at = stop
	}
	mustAnswer(t, what, x, route, l, loads, far+plane.Far(x.Stops[at], x.Stops[0]), err)
	return err
}

// scattered is an instance of so many pairs, on so many places a side, whose times are as short.
func scattered(s *lcg, pairs, side, room, due int) api.Instance {
	x := api.Instance{Pairs: pairs, Cars: 1 + s.below(8), Room: room}
	for i := range 2*pairs + 1 {
		p := api.Stop{X: s.below(side), Y: s.below(side), Ready: s.below(1 + due/2), Service: s.below(3)}
		p.Due = p.Ready + s.below(1+due)
		switch {
		case i == 0:
			p.Service = 0
			p.Due += due
		case i <= pairs:
			p.Demand = 1 + s.below(5)
		default:
			p.Demand = -x.Stops[i-pairs].Demand
		}
		x.Stops = append(x.Stops, p)
	}
	return x
}

// order is a route of so many of x's pairs, each brought behind where it is taken in.
func order(s *lcg, x api.Instance, pairs int) []int {
	var route []int
	all := row(1, x.Pairs)
	for range pairs {
		k := s.below(len(all))
		i := all[k]
		all = slices.Delete(all, k, k+1)
		first := s.below(len(route) + 1)
		route = slices.Insert(route, first, i)
		route = slices.Insert(route, first+1+s.below(len(route)-first), i+x.Pairs)
	}
	return route
}

// fitted is an instance and a route that may just be: room and times are as the route needs them, or little more.
func fitted(s *lcg, pairs, on, side int) (api.Instance, []int) {
	x := scattered(s, pairs, side, api.MaxAmount, 20)
	route := order(s, x, on)
	most := 1
	for k, stop := range route {
		p := &x.Stops[stop]
		come := lastTime(x, route[:k+1]).Come
		p.Ready = max(0, come-10+s.below(20))
		p.Due = max(come, p.Ready) + s.below(3)
		most = max(most, held(x, route[:k+1]))
	}
	back := lastTime(x, append(slices.Clone(route), 0)).Come
	x.Stops[0].Due = back + s.below(3)
	x.Room = most + s.below(3)
	return x, route
}

// P7.1, P7.2: the example of the chapter, and the one of the whole.
func TestExample(t *testing.T) {
	mustAnswer(t, "the example", example(), []int{1, 2}, times([3]int{3, 3, 4}, [3]int{9, 9, 10}), []int{2, 0}, 12, api.OK)
}

// P7.1, P7.2: no stops, also where the yard is open but for a moment, and of no pairs at all.
func TestNoStops(t *testing.T) {
	for _, route := range [][]int{nil, {}} {
		mustAnswer(t, "one pair", example(), route, nil, nil, 0, api.OK)
		mustAnswer(t, "16 pairs", sixteen(), route, nil, nil, 0, api.OK)
		mustAnswer(t, "no pairs", api.Instance{Cars: 1, Room: 1, Stops: []api.Stop{{}}}, route, nil, nil, 0, api.OK)
		x := example()
		x.Stops[0].Ready, x.Stops[0].Due = 70, 70
		mustAnswer(t, "open for a moment", x, route, nil, nil, 0, api.OK)
		x.Stops[0].Ready, x.Stops[0].Due = api.MaxTime, api.MaxTime
		mustAnswer(t, "open at the very last", x, route, nil, nil, 0, api.OK)
		mustFail(t, "noughts", api.Instance{}, route, api.ErrArg)
	}
}

// P7.1, P7.2: both pairs, written out, in each order.
func TestTwoPairs(t *testing.T) {
	x := two()
	x.Stops[1].Service, x.Stops[2].Service, x.Stops[3].Service, x.Stops[4].Service = 1, 2, 3, 4
	for _, c := range []struct {
		route []int
		times []api.Time
		loads []int
		far   int
	}{
		{[]int{1, 3}, times([3]int{10, 10, 11}, [3]int{12, 12, 15}), []int{3, 0}, 22},
		{[]int{2, 4}, times([3]int{20, 20, 22}, [3]int{23, 23, 27}), []int{4, 0}, 42},
		{[]int{1, 3, 2, 4}, times([3]int{10, 10, 11}, [3]int{12, 12, 15}, [3]int{24, 24, 26}, [3]int{27, 27, 31}), []int{3, 0, 4, 0}, 42},
		{[]int{2, 4, 1, 3}, times([3]int{20, 20, 22}, [3]int{23, 23, 27}, [3]int{38, 38, 39}, [3]int{40, 40, 43}), []int{4, 0, 3, 0}, 44},
		{[]int{1, 2, 3, 4}, times([3]int{10, 10, 11}, [3]int{21, 21, 23}, [3]int{32, 32, 35}, [3]int{45, 45, 49}), []int{3, 7, 4, 0}, 60},
		{[]int{1, 2, 4, 3}, times([3]int{10, 10, 11}, [3]int{21, 21, 23}, [3]int{24, 24, 28}, [3]int{38, 38, 41}), []int{3, 7, 3, 0}, 42},
		{[]int{2, 1, 3, 4}, times([3]int{20, 20, 22}, [3]int{32, 32, 33}, [3]int{34, 34, 37}, [3]int{47, 47, 51}), []int{4, 7, 4, 0}, 62},
		{[]int{2, 1, 4, 3}, times([3]int{20, 20, 22}, [3]int{32, 32, 33}, [3]int{44, 44, 48}, [3]int{58, 58, 61}), []int{4, 7, 3, 0}, 62},
	} {
		mustAnswer(t, "two pairs", x, c.route, c.times, c.loads, c.far, api.OK)
	}
}

// P7.1, P7.2: 16 pairs on one route, written out.
func TestSixteenPairs(t *testing.T) {
	x := sixteen()
	var all []api.Time
	for k := range 32 {
		come := 100*(k+1) + 2*k
		all = append(all, api.Time{Come: come, Begin: come, Leave: come + 2})
	}
	mustAnswer(t, "there and back", x, row(1, 32), all, slices.Concat(row(1, 16), []int{15, 14, 13, 12, 11, 10, 9, 8, 7, 6, 5, 4, 3, 2, 1, 0}), 6400, api.OK)
	var route, loads []int
	all = nil
	left := 0
	for i := 1; i <= 16; i++ {
		route, loads = append(route, i, 16+i), append(loads, 1, 0)
		come := left + 100
		if i > 1 {
			come = left + 1500
		}
		left = come + 1604
		all = append(all, api.Time{Come: come, Begin: come, Leave: come + 2}, api.Time{Come: come + 1602, Begin: come + 1602, Leave: left})
	}
	mustAnswer(t, "one by one", x, route, all, loads, 100+16*1600+15*1500+3200, api.OK)
	x.Room = 15
	mustFail(t, "one too many", x, row(1, 32), api.ErrFull)
	mustAnswer(t, "one by one, with less room", x, route, all, loads, 100+16*1600+15*1500+3200, api.OK)
	mustFail(t, "all but the last one", sixteen(), row(1, 31), api.ErrOrder)
	mustFail(t, "one more", sixteen(), row(1, 33), api.ErrArg)
	mustFail(t, "from the yard on", sixteen(), row(0, 32), api.ErrArg)
}

// P7.1: it begins just at its Due, or one later.
func TestDue(t *testing.T) {
	want, loads := times([3]int{3, 3, 4}, [3]int{9, 9, 10}), []int{2, 0}
	x := example()
	x.Stops[1].Due = 3
	mustBeJust(t, "the first stop's Due", &x, []int{1, 2}, &x.Stops[1].Due, want, loads, 12, api.ErrLate)
	x = example()
	x.Stops[2].Due = 9
	mustBeJust(t, "the last stop's Due", &x, []int{1, 2}, &x.Stops[2].Due, want, loads, 12, api.ErrLate)
	x = two()
	x.Stops[3].Due = 29
	mustBeJust(t, "a stop's between", &x, []int{1, 2, 3, 4}, &x.Stops[3].Due, times([3]int{10, 10, 10}, [3]int{20, 20, 20}, [3]int{29, 29, 29}, [3]int{39, 39, 39}), []int{3, 7, 4, 0}, 60, api.ErrLate)
}

// P7.1: it waits for a stop's Ready, and does not where it comes just then, or later; its Service may last beyond its Due.
func TestReady(t *testing.T) {
	for _, c := range []struct {
		what       string
		stop       int
		ready, due int
		times      []api.Time
	}{
		{"one sooner, at the first stop", 1, 4, 50, times([3]int{3, 4, 5}, [3]int{10, 10, 11})},
		{"just then, at the first stop", 1, 3, 50, times([3]int{3, 3, 4}, [3]int{9, 9, 10})},
		{"one later, at the first stop", 1, 2, 50, times([3]int{3, 3, 4}, [3]int{9, 9, 10})},
		{"long ahead, at the first stop", 1, 40, 40, times([3]int{3, 40, 41}, [3]int{46, 46, 47})},
		{"one sooner, at the last stop", 2, 10, 90, times([3]int{3, 3, 4}, [3]int{9, 10, 11})},
		{"just then, at the last stop", 2, 9, 9, times([3]int{3, 3, 4}, [3]int{9, 9, 10})},
		{"one later, at the last stop", 2, 8, 90, times([3]int{3, 3, 4}, [3]int{9, 9, 10})},
		{"long ahead, at the last stop", 2, 90, 90, times([3]int{3, 3, 4}, [3]int{9, 90, 91})},
	} {
		x := example()
		x.Stops[c.stop].Ready, x.Stops[c.stop].Due = c.ready, c.due
		mustAnswer(t, c.what, x, []int{1, 2}, c.times, []int{2, 0}, 12, api.OK)
	}
	x := example()
	x.Stops[1].Due, x.Stops[1].Service = 3, 30
	mustAnswer(t, "a long Service", x, []int{1, 2}, times([3]int{3, 3, 33}, [3]int{38, 38, 39}), []int{2, 0}, 12, api.OK)
}

// P7.1: it comes to the yard just at the yard's Due, or one later: its last Service counts, and what it waited for.
func TestYardDue(t *testing.T) {
	x := example()
	x.Stops[0].Due = 14
	mustBeJust(t, "the yard's Due", &x, []int{1, 2}, &x.Stops[0].Due, times([3]int{3, 3, 4}, [3]int{9, 9, 10}), []int{2, 0}, 12, api.ErrLate)
	x = example()
	x.Stops[2].Ready, x.Stops[2].Service, x.Stops[0].Due = 20, 30, 54
	mustBeJust(t, "the yard's Due behind a long Service", &x, []int{1, 2}, &x.Stops[0].Due, times([3]int{3, 3, 4}, [3]int{9, 20, 50}), []int{2, 0}, 12, api.ErrLate)
	x = example()
	x.Stops[2].X, x.Stops[2].Y, x.Stops[0].Due = 0, 0, 8
	mustBeJust(t, "the last stop at the yard", &x, []int{1, 2}, &x.Stops[0].Due, times([3]int{3, 3, 4}, [3]int{7, 7, 8}), []int{2, 0}, 6, api.ErrLate)
}

// P7.1: it leaves the yard at the yard's Ready.
func TestYardReady(t *testing.T) {
	x := example()
	x.Stops[0].Ready, x.Stops[0].Due = 7, 21
	want := times([3]int{10, 10, 11}, [3]int{16, 16, 17})
	mustBeJust(t, "the yard's Due", &x, []int{1, 2}, &x.Stops[0].Due, want, []int{2, 0}, 12, api.ErrLate)
	x.Stops[1].Due = 10
	mustBeJust(t, "the first stop's Due", &x, []int{1, 2}, &x.Stops[1].Due, want, []int{2, 0}, 12, api.ErrLate)
	x.Stops[1].Ready, x.Stops[1].Due = 10, 50
	mustAnswer(t, "the first stop's Ready", x, []int{1, 2}, want, []int{2, 0}, 12, api.OK)
	x.Stops[0].Ready, x.Stops[0].Due = 60, 100
	mustFail(t, "it leaves when all is over", x, []int{1, 2}, api.ErrLate)
}

// P7.1: at the latest time that there is.
func TestLatestTime(t *testing.T) {
	x := example()
	for i := range x.Stops {
		x.Stops[i] = api.Stop{Demand: x.Stops[i].Demand, Ready: api.MaxTime, Due: api.MaxTime}
	}
	last := [3]int{api.MaxTime, api.MaxTime, api.MaxTime}
	mustAnswer(t, "all at one place", x, []int{1, 2}, times(last, last), []int{2, 0}, 0, api.OK)
	mustFail(t, "one off", with(x, func(x *api.Instance) { x.Stops[1].X = 1 }), []int{1, 2}, api.ErrLate)
	mustFail(t, "the last stop off", with(x, func(x *api.Instance) { x.Stops[2].Y = 10000 }), []int{1, 2}, api.ErrLate)
	mustFail(t, "a Service at the first stop", with(x, func(x *api.Instance) { x.Stops[1].Service = 1 }), []int{1, 2}, api.ErrLate)
	mustFail(t, "a Service at the last stop", with(x, func(x *api.Instance) { x.Stops[2].Service = 1000 }), []int{1, 2}, api.ErrLate)
	x.Stops[0].Ready = 0
	x.Stops[1].X = 10000
	mustFail(t, "it waits far off", x, []int{1, 2}, api.ErrLate)
}

// P7.1, P7.2: the car holds just Room, and one more.
func TestRoom(t *testing.T) {
	want := times([3]int{10, 10, 10}, [3]int{20, 20, 20}, [3]int{29, 29, 29}, [3]int{39, 39, 39})
	x := two()
	mustBeJust(t, "both at once", &x, []int{1, 2, 3, 4}, &x.Room, want, []int{3, 7, 4, 0}, 60, api.ErrFull)
	x.Room = 4
	want = times([3]int{10, 10, 10}, [3]int{11, 11, 11}, [3]int{20, 20, 20}, [3]int{21, 21, 21})
	mustBeJust(t, "one behind the other", &x, []int{1, 3, 2, 4}, &x.Room, want, []int{3, 0, 4, 0}, 42, api.ErrFull)
	x = example()
	x.Room = 2
	mustBeJust(t, "one", &x, []int{1, 2}, &x.Room, times([3]int{3, 3, 4}, [3]int{9, 9, 10}), []int{2, 0}, 12, api.ErrFull)
	x.Room, x.Stops[1].Demand, x.Stops[2].Demand = 1000, 1000, -1000
	mustBeJust(t, "as much as there may be", &x, []int{1, 2}, &x.Room, times([3]int{3, 3, 4}, [3]int{9, 9, 10}), []int{1000, 0}, 12, api.ErrFull)
}

// P7.1, P7.2: of 16 greatest things only one is held at a time.
func TestRoomForOneOfSixteen(t *testing.T) {
	x := sixteen()
	x.Room = 1000
	for i := 1; i <= 16; i++ {
		x.Stops[i].Demand, x.Stops[16+i].Demand = 1000, -1000
	}
	for i := 1; i <= 16; i++ {
		for k := 1; k <= 16; k++ {
			if i != k {
				mustFail(t, "two of them", x, []int{i, k, 16 + i, 16 + k}, api.ErrFull)
				mustBeAsSaid(t, "one by one", x, []int{i, 16 + i, k, 16 + k})
			}
		}
	}
}

// P7.1, P1: numbers that are no stops, first, between and last.
func TestNoSuchStop(t *testing.T) {
	for _, x := range []api.Instance{{Cars: 1, Room: 1, Stops: []api.Stop{{}}}, example(), two(), sixteen()} {
		n := 2 * x.Pairs
		for _, stop := range []int{0, -1, -2, -n, -n - 1, n + 1, n + 2, 63, 64, 65, 1 << 20, 1 << 31, 1<<32 + 1, 1<<32 + n, -1 << 32, 1 << 62, math.MinInt, math.MinInt + 1, math.MaxInt, math.MaxInt - 1} {
			mustFail(t, "alone", x, []int{stop}, api.ErrArg)
			mustFail(t, "twice", x, []int{stop, stop}, api.ErrArg)
			if x.Pairs > 0 {
				mustFail(t, "first", x, []int{stop, 1, 1 + x.Pairs}, api.ErrArg)
				mustFail(t, "between", x, []int{1, stop, 1 + x.Pairs}, api.ErrArg)
				mustFail(t, "last", x, []int{1, 1 + x.Pairs, stop}, api.ErrArg)
			}
		}
		for stop := 1; stop <= n; stop++ {
			mustFail(t, "one stop alone", x, []int{stop}, api.ErrOrder)
		}
	}
}

// P7.1: a stop that is there twice, wherever: each of 16 pairs, first as it is taken in, then as it is brought.
func TestTwice(t *testing.T) {
	for stop := 1; stop <= 32; stop++ {
		for k := stop; k <= 32; k++ {
			mustFail(t, "twice", sixteen(), slices.Insert(row(1, 32), k, stop), api.ErrTwice)
		}
	}
	mustFail(t, "a pair twice", example(), []int{1, 2, 1, 2}, api.ErrTwice)
	mustFail(t, "brought twice", example(), []int{1, 2, 2}, api.ErrTwice)
	mustFail(t, "taken in twice", example(), []int{1, 1, 2}, api.ErrTwice)
	long := make([]int, 1<<22)
	for i := range long {
		long[i] = 1
	}
	mustFail(t, "over and over", example(), long, api.ErrTwice)
}

// P7.1: something is brought ahead of its being taken in, or not taken in, or not brought.
func TestOrder(t *testing.T) {
	for i := 1; i <= 16; i++ {
		route := row(1, 32)
		route[i-1], route[16+i-1] = 16+i, i
		mustFail(t, "brought ahead", sixteen(), route, api.ErrOrder)
		mustFail(t, "not taken in", sixteen(), slices.Delete(row(1, 32), i-1, i), api.ErrOrder)
		mustFail(t, "not brought", sixteen(), slices.Delete(row(1, 32), 16+i-1, 16+i), api.ErrOrder)
		mustBeAsSaid(t, "neither", sixteen(), slices.Delete(slices.Delete(row(1, 32), 16+i-1, 16+i), i-1, i))
	}
	for _, route := range [][]int{{2, 1}, {1}, {2}} {
		mustFail(t, "one pair", example(), route, api.ErrOrder)
	}
	for _, route := range [][]int{{1, 4}, {2, 3}, {1, 4, 2, 3}, {3, 1}, {1, 2}, {1, 2, 3}, {1, 2, 4}, {1, 3, 2}, {1, 3, 4}, {1, 3, 4, 2}} {
		mustFail(t, "two pairs", two(), route, api.ErrOrder)
	}
}

// P7.1, R2: where several errors fit at one stop, the one that the chapter names first.
func TestFirstErrorAtOneStop(t *testing.T) {
	room := func(n int) func(x *api.Instance) { return func(x *api.Instance) { x.Room = n } }
	due := func(stop, n int) func(x *api.Instance) { return func(x *api.Instance) { x.Stops[stop].Due = n } }
	for _, c := range []struct {
		what   string
		change []func(x *api.Instance)
		route  []int
		err    api.Errno
	}{
		{"twice and too full", []func(x *api.Instance){room(5)}, []int{1, 1}, api.ErrTwice},
		{"twice and too late", []func(x *api.Instance){due(1, 10)}, []int{1, 3, 1}, api.ErrTwice},
		{"twice, too full and too late", []func(x *api.Instance){due(1, 10)}, []int{1, 2, 1}, api.ErrTwice},
		{"brought twice and too late", []func(x *api.Instance){due(3, 11)}, []int{1, 3, 2, 3}, api.ErrTwice},
		{"brought ahead and too late", []func(x *api.Instance){due(4, 20)}, []int{4}, api.ErrOrder},
		{"brought ahead of another one and too late", []func(x *api.Instance){due(4, 20)}, []int{1, 4}, api.ErrOrder},
		{"too full and too late", []func(x *api.Instance){room(6), due(2, 19)}, []int{1, 2}, api.ErrFull},
		{"too full and too late at the first stop", []func(x *api.Instance){room(2), due(1, 9)}, []int{1}, api.ErrFull},
		{"no stop and much too late", []func(x *api.Instance){due(0, 0)}, []int{1, 3, 0}, api.ErrArg},
	} {
		x := two()
		for _, change := range c.change {
			change(&x)
		}
		mustFail(t, c.what, x, c.route, c.err)
	}
}

// P7.1, R2: an earlier stop's error is told, whatever is wrong with a later one.
func TestFirstErrorStopByStop(t *testing.T) {
	x := two()
	x.Room = 6
	x.Stops[4].Due = 20
	// What is wrong behind 1: the stop 2 is too full, 1 twice, 4 not taken in and too late, 0 no stop.
	later := [][]int{{0}, {-5}, {5}, {1}, {1, 1}, {4}, {2}, {2, 4}, {3, 2, 4}, {3, 4}, {3, 3}, {}}
	for _, tail := range later {
		for _, c := range []struct {
			what string
			x    api.Instance
			head []int
			err  api.Errno
		}{
			{"no stop", x, []int{0}, api.ErrArg},
			{"too great", x, []int{1, 5}, api.ErrArg},
			{"twice", x, []int{1, 1}, api.ErrTwice},
			{"brought twice", x, []int{1, 3, 3}, api.ErrTwice},
			{"brought ahead", x, []int{3}, api.ErrOrder},
			{"not taken in", x, []int{1, 4}, api.ErrOrder},
			{"too full", x, []int{1, 2}, api.ErrFull},
			{"too full at once", with(x, func(x *api.Instance) { x.Room = 2 }), []int{1}, api.ErrFull},
			{"too late", with(x, func(x *api.Instance) { x.Stops[1].Due = 9 }), []int{1}, api.ErrLate},
			{"too late behind another one", with(x, func(x *api.Instance) { x.Stops[2].Due = 19 }), []int{1, 3, 2}, api.ErrLate},
		} {
			mustFail(t, c.what, c.x, slices.Concat(c.head, tail), c.err)
		}
	}
}

// P7.1, R2: a stop's error ahead of what is not brought, and this ahead of coming back too late.
func TestFirstErrorAtTheEnd(t *testing.T) {
	late := func(stop, due int) api.Instance {
		return with(two(), func(x *api.Instance) { x.Stops[stop].Due = due })
	}
	mustFail(t, "no stop, and 1 not brought", two(), []int{1, 0}, api.ErrArg)
	mustFail(t, "twice, and 1 not brought", two(), []int{1, 1}, api.ErrTwice)
	mustFail(t, "too full, and neither brought", with(two(), func(x *api.Instance) { x.Room = 6 }), []int{1, 2}, api.ErrFull)
	mustFail(t, "too late, and neither brought", late(2, 19), []int{1, 2}, api.ErrLate)
	mustFail(t, "too late, and 1 not brought", late(1, 9), []int{1}, api.ErrLate)
	mustFail(t, "no stop, and back too late", late(0, 21), []int{1, 3, 0}, api.ErrArg)
	mustFail(t, "twice, and back too late", late(0, 21), []int{1, 3, 1}, api.ErrTwice)
	mustFail(t, "1 not brought, and back too late", late(0, 19), []int{1}, api.ErrOrder)
	mustFail(t, "2 not brought, and back too late", late(0, 19), []int{1, 3, 2}, api.ErrOrder)
	mustFail(t, "back too late alone", late(0, 21), []int{1, 3}, api.ErrLate)
	mustAnswer(t, "back in time", late(0, 22), []int{1, 3}, times([3]int{10, 10, 10}, [3]int{11, 11, 11}), []int{3, 0}, 22, api.OK)
}

// P7.1, P1: an instance that may not be, whatever the route: none, one that would be, and wrong ones.
func TestMayNotBe(t *testing.T) {
	wrong := []api.Instance{
		{},
		{Cars: 1, Room: 1},
		{Pairs: 1, Cars: 1, Room: 5, Stops: append(example().Stops, api.Stop{})},
		{Pairs: 1, Cars: 1, Room: 5, Stops: example().Stops[:2]},
		{Pairs: 1, Cars: 1, Room: 5},
		{Pairs: 1 << 10, Cars: 1, Room: 1, Stops: make([]api.Stop, 1<<11+1)},
		{Pairs: 17, Cars: 1, Room: 1, Stops: append(sixteen().Stops, api.Stop{}, api.Stop{})},
	}
	for _, pairs := range []int{-1, 0, 2, math.MinInt, math.MaxInt, 1<<62 + 1, 1<<32 + 1} {
		wrong = append(wrong, with(example(), func(x *api.Instance) { x.Pairs = pairs }))
	}
	for i := range 3 + 6*3 {
		for _, n := range []int{math.MinInt, -1001, -1, 1<<20 + 1, 1<<32 + 1, math.MaxInt} {
			x := example()
			l := []*int{&x.Pairs, &x.Cars, &x.Room}
			for k := range x.Stops {
				s := &x.Stops[k]
				l = append(l, &s.X, &s.Y, &s.Demand, &s.Ready, &s.Due, &s.Service)
			}
			*l[i] = n
			wrong = append(wrong, x)
		}
	}
	for _, x := range wrong {
		if inst.May(x) {
			t.Fatalf("it may be: %+v", x)
		}
		for _, route := range [][]int{nil, {1, 2}, {1}, {2}, {2, 1}, {1, 1}, {0}, {3}, {40}, {math.MinInt}, {math.MaxInt}} {
			mustFail(t, "may not be", x, route, api.ErrArg)
		}
	}
}

// P7.1: how many cars there are, and whether other stops can be come to, does not count.
func TestWhatDoesNotCount(t *testing.T) {
	x := two()
	want := times([3]int{10, 10, 10}, [3]int{11, 11, 11})
	for cars := 1; cars <= 8; cars++ {
		x.Cars = cars
		mustAnswer(t, "other cars", x, []int{1, 3}, want, []int{3, 0}, 22, api.OK)
	}
	x.Stops[2].Due, x.Stops[4].Due, x.Stops[2].X = 0, 0, 10000
	x.Stops[2].Demand, x.Stops[4].Demand = 1000, -1000
	mustAnswer(t, "the other pair can't be brought", x, []int{1, 3}, want, []int{3, 0}, 22, api.OK)
	mustFail(t, "the other pair", x, []int{2, 4}, api.ErrFull)
}

// P7.1, P7.2: all routes of up to 5 numbers from 0 to 5, on two pairs with little room and little time.
func TestAllShortRoutes(t *testing.T) {
	seen := map[api.Errno]int{}
	s := lcg(1)
	var goOn func(x api.Instance, route []int)
	goOn = func(x api.Instance, route []int) {
		seen[mustBeAsSaid(t, "a short route", x, route)]++
		if len(route) < 5 {
			for stop := range 6 {
				goOn(x, append(slices.Clone(route), stop))
			}
		}
	}
	for range 25 {
		goOn(scattered(&s, 2, 6, 3+s.below(8), 60), nil)
	}
	for _, err := range []api.Errno{api.OK, api.ErrArg, api.ErrTwice, api.ErrOrder, api.ErrFull, api.ErrLate} {
		if seen[err] < 50 {
			t.Errorf("too few routes with error %d: %v", err, seen)
		}
	}
}

// spoilt is a route with one thing changed, or none.
func spoilt(s *lcg, x api.Instance, route []int) []int {
	route = slices.Clone(route)
	if len(route) == 0 {
		return route
	}
	i, k := s.below(len(route)), s.below(len(route))
	switch s.below(6) {
	case 0:
		route[i], route[k] = route[k], route[i]
	case 1:
		route[i] = s.below(2*x.Pairs+3) - 1
	case 2:
		route = slices.Insert(route, i, route[k])
	case 3:
		route = slices.Delete(route, i, i+1)
	case 4:
		x.Stops[route[i]].Due = max(x.Stops[route[i]].Due-1, x.Stops[route[i]].Ready)
	}
	return route
}

// P7.1, P7.2: routes of all lengths that may just be, and such with something changed.
func TestFittedRoutes(t *testing.T) {
	seen := map[api.Errno]int{}
	s := lcg(2)
	for pairs := range 17 {
		for turn := range 150 {
			what := fmt.Sprint(pairs, " pairs, turn ", turn)
			x, route := fitted(&s, pairs, s.below(pairs+1), []int{3, 40, 10001}[turn%3])
			if err := mustBeAsSaid(t, what, x, route); err != api.OK {
				t.Errorf("%s: a route that should be has error %d: %d of %+v", what, err, route, x)
			}
			seen[mustBeAsSaid(t, what, x, spoilt(&s, x, route))]++
			seen[mustBeAsSaid(t, what, with(x, func(x *api.Instance) { x.Room-- }), route)]++
			seen[mustBeAsSaid(t, what, with(x, func(x *api.Instance) { x.Stops[0].Due-- }), route)]++
		}
	}
	for _, err := range []api.Errno{api.OK, api.ErrArg, api.ErrTwice, api.ErrOrder, api.ErrFull, api.ErrLate} {
		if seen[err] < 50 {
			t.Errorf("too few routes with error %d: %v", err, seen)
		}
	}
}

// P7.3: no car holds less than nothing, nor anything at the end; and no more than Room.
func TestHoldsNothingAtTheEnd(t *testing.T) {
	s := lcg(3)
	for range 2000 {
		pairs := 1 + s.below(16)
		x, route := fitted(&s, pairs, 1+s.below(pairs), 50)
		loads := sched.Loads(x, route)
		if len(loads) != len(route) || loads[len(loads)-1] != 0 {
			t.Errorf("it holds %d behind %d; of %+v", loads, route, x)
		}
		for _, load := range loads {
			if load < 0 || load > x.Room {
				t.Errorf("it holds %d behind %d; of %+v", loads, route, x)
			}
		}
	}
}

// P7.3: who leaves out a pair from a route that may be has a route that may be, no longer; and is nowhere later.
func TestLeaveOutAPair(t *testing.T) {
	s := lcg(4)
	for turn := range 1500 {
		pairs := 1 + s.below(16)
		x, route := fitted(&s, pairs, 1+s.below(pairs), []int{2, 30, 10001}[turn%3])
		l, far, err := sched.Times(x, route)
		if err != api.OK {
			t.Fatalf("a route that should be has error %d: %d of %+v", err, route, x)
		}
		for i := 1; i <= pairs; i++ {
			if !slices.Contains(route, i) {
				continue
			}
			rest := slices.DeleteFunc(slices.Clone(route), func(stop int) bool { return stop == i || stop == pairs+i })
			restL, restFar, err := sched.Times(x, rest)
			if err != api.OK || restFar > far || len(restL) != len(rest) {
				t.Errorf("without %d: %v, %d, %d; with it %d; %d of %+v", i, restL, restFar, err, far, route, x)
				continue
			}
			for k, stop := range rest {
				if restL[k].Begin > l[slices.Index(route, stop)].Begin {
					t.Errorf("without %d it begins later at %d; %d of %+v", i, stop, route, x)
				}
			}
		}
	}
}

// R3: what is handed in stays as it was, behind its end, too, and what is answered shares nothing with it.
func TestSharesNothingWithWhatIsHandedIn(t *testing.T) {
	behind := api.Stop{X: 6, Y: 5, Demand: 4, Ready: 3, Due: 2, Service: 1}
	x := example()
	stops, route := append(x.Stops, behind), []int{1, 2, -9, -9}
	x.Stops = stops[:3]
	l, far, err := sched.Times(x, route[:2])
	loads := sched.Loads(x, route[:2])
	if !reflect.DeepEqual(x, example()) || stops[3] != behind || !slices.Equal(route, []int{1, 2, -9, -9}) {
		t.Fatalf("the stops are %+v now, the route %d", stops, route)
	}
	for i := range stops {
		stops[i] = api.Stop{X: 9, Y: 9, Demand: 9, Ready: 9, Due: 9, Service: 9}
		route[i] = 9
	}
	if !slices.Equal(l, times([3]int{3, 3, 4}, [3]int{9, 9, 10})) || far != 12 || err != api.OK || !slices.Equal(loads, []int{2, 0}) {
		t.Errorf("a change of what was handed in made Times %v, %d, %d and Loads %d", l, far, err, loads)
	}
	x, route = example(), []int{1, 2}
	l, _, _ = sched.Times(x, route)
	clear(l[:cap(l)])
	loads = sched.Loads(x, route)
	clear(loads[:cap(loads)])
	if !reflect.DeepEqual(x, example()) || !slices.Equal(route, []int{1, 2}) {
		t.Errorf("a change of the answer made %+v and %d", x, route)
	}
}

// R3: no answer shares anything with another one.
func TestAnswersShareNothing(t *testing.T) {
	x, route := sixteen(), row(1, 32)
	l, _, _ := sched.Times(x, route)
	loads := sched.Loads(x, route)
	wantL, wantLoads := slices.Clone(l), slices.Clone(loads)
	otherL, _, _ := sched.Times(x, route)
	otherLoads := sched.Loads(x, route)
	clear(otherL[:cap(otherL)])
	clear(otherLoads[:cap(otherLoads)])
	if !slices.Equal(l, wantL) || !slices.Equal(loads, wantLoads) {
		t.Errorf("a change of one answer made another one %v, %d", l, loads)
	}
	againL, _, _ := sched.Times(x, route)
	if again := sched.Loads(x, route); !slices.Equal(againL, wantL) || !slices.Equal(again, wantLoads) {
		t.Errorf("a change of one answer made the next one %v, %d", againL, again)
	}
}

// R5: no answer hangs on what was asked before.
func TestAskedAgain(t *testing.T) {
	s := lcg(5)
	for range 50 {
		x, route := fitted(&s, 16, 16, 100)
		sched.Times(x, route)
		sched.Loads(x, route)
		sched.Times(two(), []int{1, 2})
		sched.Loads(two(), []int{3})
		sched.Times(api.Instance{Pairs: 3}, []int{1})
		TestExample(t)
		mustFail(t, "noughts", api.Instance{}, []int{1, 2}, api.ErrArg)
		mustFail(t, "taken in alone", example(), []int{1}, api.ErrOrder)
	}
}
