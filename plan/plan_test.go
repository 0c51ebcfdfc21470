package plan_test

import (
	"bytes"
	"fmt"
	"math"
	"reflect"
	"slices"
	"strings"
	"testing"

	"haulier/api"
	"haulier/inst"
	"haulier/plan"
	"haulier/scan"
	"haulier/sched"
)

// lcg is a row of numbers that are spread out, the same in each run.
type lcg uint64

func (s *lcg) below(n int) int {
	*s = *s*6364136223846793005 + 1442695040888963407
	// The low bits of such a row repeat soon: only the high ones are taken.
	return int(uint64(*s) >> 33 % uint64(n))
}

// example is chapter 5's: one pair.
func example() api.Instance {
	return api.Instance{Pairs: 1, Cars: 1, Room: 5, Stops: []api.Stop{
		{X: 0, Y: 0, Demand: 0, Ready: 0, Due: 100, Service: 0},
		{X: 3, Y: 0, Demand: 2, Ready: 0, Due: 50, Service: 1},
		{X: 0, Y: 4, Demand: -2, Ready: 0, Due: 90, Service: 1},
	}}
}

// three are three pairs on a line, for any two of which there is room, but not for all; the third one can only be taken in at once.
func three(cars int) api.Instance {
	return api.Instance{Pairs: 3, Cars: cars, Room: 2, Stops: []api.Stop{
		{X: 0, Due: 1000},
		{X: 10, Demand: 1, Due: 1000},
		{X: 20, Demand: 1, Due: 1000},
		{X: 30, Demand: 1, Due: 30},
		{X: 11, Demand: -1, Due: 1000},
		{X: 21, Demand: -1, Due: 1000},
		{X: 31, Demand: -1, Due: 1000},
	}}
}

// sixteen are 16 pairs on a line, 100 from stop to stop, each of one thing, for all of which there is just room.
func sixteen(cars int) api.Instance {
	x := api.Instance{Pairs: 16, Cars: cars, Room: 16}
	for i := range 33 {
		s := api.Stop{X: 100 * i, Due: api.MaxTime}
		switch {
		case i == 0:
		case i <= 16:
			s.Demand = 1
		default:
			s.Demand = -1
		}
		x.Stops = append(x.Stops, s)
	}
	return x
}

func noPairs() api.Instance { return api.Instance{Cars: 1, Room: 1, Stops: []api.Stop{{}}} }

func cloneInstance(x api.Instance) api.Instance {
	x.Stops = slices.Clone(x.Stops)
	return x
}

func routes(l ...[]int) api.Plan { return api.Plan{Routes: l} }

// clonePlan keeps apart what is nil and what is empty.
func clonePlan(p api.Plan) api.Plan {
	p.Routes = slices.Clone(p.Routes)
	for i := range p.Routes {
		p.Routes[i] = slices.Clone(p.Routes[i])
	}
	return p
}

// alike tells whether both plans have the same routes in the same order.
func alike(p, q api.Plan) bool {
	if len(p.Routes) != len(q.Routes) {
		return false
	}
	for i := range p.Routes {
		if fmt.Sprint(p.Routes[i]) != fmt.Sprint(q.Routes[i]) {
			return false
		}
	}
	return true
}

// row is the numbers from least to most.
func row(least, most int) []int {
	var l []int
	for n := least; n <= most; n++ {
		l = append(l, n)
	}
	return l
}

// orders are all orders of a plan's routes.
func orders(p api.Plan) []api.Plan {
	if len(p.Routes) < 2 {
		return []api.Plan{p}
	}
	var all []api.Plan
	for i, route := range p.Routes {
		rest := slices.Delete(slices.Clone(p.Routes), i, i+1)
		for _, q := range orders(api.Plan{Routes: rest}) {
			all = append(all, api.Plan{Routes: append([][]int{route}, q.Routes...)})
		}
	}
	return all
}

// mustCost asks for just this cost and error, and that what is handed in stays as it was.
func mustCost(t *testing.T, what string, x api.Instance, p api.Plan, cost int, err api.Errno) {
	t.Helper()
	wasX, wasP := cloneInstance(x), clonePlan(p)
	if n, e := plan.Cost(x, p); n != cost || e != err {
		t.Errorf("%s: Cost of %d: %d, %d; want %d, %d; of %+v", what, p.Routes, n, e, cost, err, x)
	}
	if !reflect.DeepEqual(x, wasX) || !reflect.DeepEqual(p, wasP) {
		t.Errorf("%s: it is now %+v and %d, it was %+v and %d", what, x, p, wasX, wasP)
	}
}

// mustFail asks for an error with nought beside it.
func mustFail(t *testing.T, what string, x api.Instance, p api.Plan, err api.Errno) {
	t.Helper()
	mustCost(t, what, x, p, 0, err)
}

// mustSort asks for just these routes in this order, and that what is handed in stays as it was.
func mustSort(t *testing.T, what string, p, want api.Plan) {
	t.Helper()
	was := clonePlan(p)
	if got := plan.Sorted(p); !alike(got, want) {
		t.Errorf("%s: Sorted of %d: %d, want %d", what, p.Routes, got.Routes, want.Routes)
	}
	if !reflect.DeepEqual(p, was) {
		t.Errorf("%s: the plan is now %d, it was %d", what, p, was)
	}
}

// mustBeSame asks for this answer, whichever plan comes first.
func mustBeSame(t *testing.T, what string, p, q api.Plan, want bool) {
	t.Helper()
	wasP, wasQ := clonePlan(p), clonePlan(q)
	if got, back := plan.Same(p, q), plan.Same(q, p); got != want || back != want {
		t.Errorf("%s: Same of %d and %d: %t, and %t the other way round; want %t", what, p.Routes, q.Routes, got, back, want)
	}
	if !reflect.DeepEqual(p, wasP) || !reflect.DeepEqual(q, wasQ) {
		t.Errorf("%s: the plans are now %d and %d, they were %d and %d", what, p, q, wasP, wasQ)
	}
}

func mustPrint(t *testing.T, p api.Plan, want string) {
	t.Helper()
	was := clonePlan(p)
	if got := string(plan.Print(p)); got != want {
		t.Errorf("Print(%d): %q, want %q", p.Routes, got, want)
	}
	if !reflect.DeepEqual(p, was) {
		t.Errorf("the plan is now %d, it was %d", p, was)
	}
}

// mustParse asks for these routes in this order; beside an error, for none.
func mustParse(t *testing.T, text string, want api.Plan, err api.Errno) {
	t.Helper()
	b := []byte(text)
	if got, e := plan.Parse(b); !alike(got, want) || e != err {
		t.Errorf("Parse(%.60q), %d bytes: %d, %d; want %d, %d", text, len(text), got.Routes, e, want.Routes, err)
	}
	if string(b) != text {
		t.Errorf("the text is now %.60q, it was %.60q", b, text)
	}
}

// P8.1: the example of the whole, and ordinary plans, written out, with their routes in all orders.
func TestCost(t *testing.T) {
	mustCost(t, "the example", example(), routes([]int{1, 2}), 12, api.OK)
	for _, c := range []struct {
		p    api.Plan
		cost int
	}{
		{routes([]int{1, 4}, []int{2, 5}, []int{3, 6}), 22 + 42 + 62},
		{routes([]int{3, 6, 1, 4}, []int{2, 5}), 64 + 42},
		{routes([]int{2, 5, 1, 4}, []int{3, 6}), 44 + 62},
		{routes([]int{1, 2, 4, 5}, []int{3, 6}), 60 + 62},
		{routes([]int{1, 4, 2, 5, 3, 6}), 62},
		{routes([]int{3, 6, 2, 5, 1, 4}), 66},
	} {
		for _, p := range orders(c.p) {
			mustCost(t, "three pairs", three(3), p, c.cost, api.OK)
			mustCost(t, "three pairs, with no more cars than routes", three(len(p.Routes)), p, c.cost, api.OK)
			mustCost(t, "three pairs, with all cars", three(8), p, c.cost, api.OK)
		}
	}
}

// P8.1: no routes are all that is asked for where there are no pairs; else each stop is on none.
func TestNoRoutes(t *testing.T) {
	for _, p := range []api.Plan{{}, {Routes: [][]int{}}} {
		mustCost(t, "no pairs", noPairs(), p, 0, api.OK)
		mustFail(t, "one pair", example(), p, api.ErrNone)
		mustFail(t, "three pairs", three(8), p, api.ErrNone)
		mustFail(t, "16 pairs", sixteen(1), p, api.ErrNone)
		mustFail(t, "noughts", api.Instance{}, p, api.ErrArg)
	}
	for _, route := range [][]int{nil, {}} {
		mustFail(t, "no pairs, and a route without stops", noPairs(), routes(route), api.ErrArg)
	}
	for _, stop := range []int{-1, 0, 1, 2} {
		mustFail(t, "no pairs, and a stop", noPairs(), routes([]int{stop}), api.ErrArg)
	}
}

// split are the pairs from 1 to 16, on so many routes.
func split(cars int) api.Plan {
	p := api.Plan{Routes: make([][]int, cars)}
	for i := 1; i <= 16; i++ {
		k := i % cars
		p.Routes[k] = append(p.Routes[k], i, 16+i)
	}
	return p
}

// P8.1: 16 pairs on one route, in two ways, and on each number of routes up to 8.
func TestSixteenPairs(t *testing.T) {
	mustCost(t, "there and back", sixteen(1), routes(row(1, 32)), 6400, api.OK)
	mustCost(t, "one by one", sixteen(1), split(1), 100+16*1600+15*1500+3200, api.OK)
	for cars := 1; cars <= 8; cars++ {
		want := 0
		for _, route := range split(cars).Routes {
			pairs := len(route) / 2
			// To the first stop, from the last one, from stop to stop of each pair, and back to the next pair.
			want += 100*route[0] + 100*route[len(route)-1] + 1600*pairs + 100*(16-cars)*(pairs-1)
		}
		mustCost(t, fmt.Sprint(cars, " cars"), sixteen(cars), split(cars), want, api.OK)
	}
	mustFail(t, "all stops but the last pair", sixteen(1), routes(slices.Concat(row(1, 15), row(17, 31))), api.ErrNone)
	mustFail(t, "all stops but the last one", sixteen(1), routes(row(1, 31)), api.ErrOrder)
}

// P8.1: as many routes as cars, and one more, whatever is on it.
func TestAsManyRoutesAsCars(t *testing.T) {
	for cars := 1; cars <= 8; cars++ {
		p, x := split(cars), sixteen(cars)
		if _, err := plan.Cost(x, p); err != api.OK {
			t.Errorf("%d cars: error %d", cars, err)
		}
		for _, more := range [][]int{nil, {}, {0}, {1, 17}, {1, 1}, {17}, {33}, row(1, 32)} {
			for k := 0; k <= cars; k++ {
				mustFail(t, "one more", x, api.Plan{Routes: slices.Insert(slices.Clone(p.Routes), k, more)}, api.ErrFull)
			}
		}
		mustFail(t, "as many, but no stops", x, api.Plan{Routes: make([][]int, cars)}, api.ErrArg)
		mustFail(t, "one more, and no stops", x, api.Plan{Routes: make([][]int, cars+1)}, api.ErrFull)
		mustFail(t, "very many more", x, api.Plan{Routes: make([][]int, 1<<20)}, api.ErrFull)
	}
}

// P8.1: a route without stops is the first one, between others, and the last one.
func TestRouteWithoutStops(t *testing.T) {
	p := routes([]int{1, 4}, []int{2, 5}, []int{3, 6})
	for _, route := range [][]int{nil, {}} {
		for k := 0; k <= 3; k++ {
			mustFail(t, "one more without stops", three(4), api.Plan{Routes: slices.Insert(slices.Clone(p.Routes), k, route)}, api.ErrArg)
			if k < 3 {
				q := clonePlan(p)
				q.Routes[k] = route
				mustFail(t, "one of three without stops", three(4), q, api.ErrArg)
			}
		}
		mustFail(t, "alone", three(4), routes(route), api.ErrArg)
		mustFail(t, "all", three(4), routes(route, route, route, route), api.ErrArg)
	}
}

// P8.1: a stop is on two routes, next to each other or not; twice on one; or on none.
func TestTwiceAndNone(t *testing.T) {
	mustFail(t, "one pair twice", three(8), routes([]int{1, 4}, []int{1, 4}, []int{2, 5}, []int{3, 6}), api.ErrTwice)
	mustFail(t, "one pair on the first and the last route", three(8), routes([]int{1, 4}, []int{3, 6}, []int{2, 5, 1, 4}), api.ErrTwice)
	mustFail(t, "the last stop of each", three(8), routes([]int{1, 4, 3, 6}, []int{2, 5, 3, 6}), api.ErrTwice)
	mustFail(t, "all of them on two routes", three(2), routes([]int{1, 4, 2, 5, 3, 6}, []int{3, 6, 2, 5, 1, 4}), api.ErrTwice)
	mustFail(t, "the only pair", api.Instance{Pairs: 1, Cars: 2, Room: 5, Stops: example().Stops}, routes([]int{1, 2}, []int{1, 2}), api.ErrTwice)
	mustFail(t, "one pair twice on one route", three(8), routes([]int{2, 5}, []int{3, 6, 1, 4, 1, 4}), api.ErrTwice)
	for i := 1; i <= 16; i++ {
		p := split(7)
		twice := append(slices.Clone(p.Routes), []int{i, 16 + i})
		mustFail(t, "one of 16 pairs twice", sixteen(8), api.Plan{Routes: twice}, api.ErrTwice)
		for k, route := range p.Routes {
			p.Routes[k] = slices.DeleteFunc(route, func(stop int) bool { return stop == i || stop == 16+i })
		}
		mustFail(t, "one of 16 pairs on no route", sixteen(8), p, api.ErrNone)
	}
	mustFail(t, "the first pair on none", three(3), routes([]int{2, 5}, []int{3, 6}), api.ErrNone)
	mustFail(t, "the second pair on none", three(3), routes([]int{1, 4, 3, 6}), api.ErrNone)
	mustFail(t, "two pairs on none", three(3), routes([]int{2, 5}), api.ErrNone)
}

// bad is a route that is wrong by itself.
type bad struct {
	what  string
	route []int
	err   api.Errno
}

// wrongRoutes are of three's, for each of sched's errors, and for no stops.
func wrongRoutes() []bad {
	return []bad{
		{"no stops", nil, api.ErrArg},
		{"the yard", []int{0}, api.ErrArg},
		{"below the yard", []int{1, 4, -1}, api.ErrArg},
		{"too great a stop", []int{1, 7}, api.ErrArg},
		{"the least number", []int{math.MinInt}, api.ErrArg},
		{"the greatest number", []int{math.MaxInt}, api.ErrArg},
		{"a stop twice", []int{1, 4, 1}, api.ErrTwice},
		{"brought ahead", []int{4, 1}, api.ErrOrder},
		{"not brought", []int{2}, api.ErrOrder},
		{"too full", []int{1, 2, 3, 4, 5, 6}, api.ErrFull},
		{"too late", []int{2, 5, 1, 4, 3, 6}, api.ErrLate},
	}
}

// P8.1, R2: what is wrong with a route is told by sched, wherever it is; and ahead of a stop on two routes, and of one on none.
func TestWrongRoute(t *testing.T) {
	for _, b := range wrongRoutes() {
		for k := 0; k <= 3; k++ {
			for _, rest := range []api.Plan{
				routes([]int{1, 4}, []int{2, 5}, []int{3, 6}),
				routes([]int{1, 4}, []int{1, 4}, []int{1, 4}),
				routes([]int{3, 6}, []int{3, 6}, []int{2, 5}),
			} {
				mustFail(t, b.what, three(4), api.Plan{Routes: slices.Insert(rest.Routes, k, b.route)}, b.err)
			}
		}
		mustFail(t, b.what+", alone", three(1), routes(b.route), b.err)
	}
	late := three(2)
	late.Stops[0].Due = 61
	mustFail(t, "back too late", late, routes([]int{1, 4, 2, 5}, []int{3, 6}), api.ErrLate)
	late.Stops[0].Due = 62
	mustCost(t, "back just in time", late, routes([]int{1, 4, 2, 5}, []int{3, 6}), 42+62, api.OK)
}

// P8.1, R2: an earlier route's error ahead of a later one's, a route without stops being one of them; more routes than cars ahead of all.
func TestFirstErrorRouteByRoute(t *testing.T) {
	for _, first := range wrongRoutes() {
		for _, next := range wrongRoutes() {
			what := first.what + " ahead of " + next.what
			mustFail(t, what, three(2), routes(first.route, next.route), first.err)
			mustFail(t, what+", behind another one", three(3), routes([]int{1, 4}, first.route, next.route), first.err)
			mustFail(t, what+", with one between", three(3), routes(first.route, []int{1, 4}, next.route), first.err)
			mustFail(t, what+", on too few cars", three(1), routes(first.route, next.route), api.ErrFull)
		}
	}
}

// P8.1, R2: a stop on two routes ahead of one on none.
func TestTwiceAheadOfNone(t *testing.T) {
	for _, p := range []api.Plan{
		routes([]int{1, 4}, []int{1, 4}),
		routes([]int{2, 5}, []int{2, 5}),
		routes([]int{1, 4}, []int{2, 5}, []int{1, 4}),
		routes([]int{3, 6, 2, 5}, []int{2, 5}),
		// As many stops as there are, on all routes together.
		routes([]int{1, 4}, []int{2, 5}, []int{2, 5}),
		routes([]int{3, 6}, []int{3, 6}, []int{3, 6}),
	} {
		for _, q := range orders(p) {
			mustFail(t, "a pair on two, and one on none", three(3), q, api.ErrTwice)
		}
	}
}

// P8.1, P1, R2: an instance that may not be, whatever the plan.
func TestMayNotBe(t *testing.T) {
	wrong := []api.Instance{
		{},
		{Cars: 1, Room: 1},
		{Pairs: 1, Cars: 1, Room: 5},
		{Pairs: 1, Cars: 1, Room: 5, Stops: example().Stops[:2]},
		{Pairs: 1, Cars: 1, Room: 5, Stops: append(example().Stops, api.Stop{})},
		{Pairs: 17, Cars: 1, Room: 16, Stops: append(sixteen(1).Stops, api.Stop{}, api.Stop{})},
		{Pairs: 1 << 10, Cars: 1, Room: 1, Stops: make([]api.Stop, 1<<11+1)},
	}
	for i := range 3 + 6*3 {
		for _, n := range []int{math.MinInt, -1001, 1<<20 + 1, 1<<32 + 1, math.MaxInt} {
			x := example()
			l := []*int{&x.Pairs, &x.Cars, &x.Room}
			for k := range x.Stops {
				s := &x.Stops[k]
				l = append(l, &s.X, &s.Y, &s.Demand, &s.Ready, &s.Due, &s.Service)
			}
			*l[i] = n
			wrong = append(wrong, x)
		}
	}
	for _, cars := range []int{math.MinInt, -1, 0, 9, 1 << 40, math.MaxInt} {
		wrong = append(wrong, three(cars))
	}
	for _, x := range wrong {
		if inst.May(x) {
			t.Fatalf("it may be: %+v", x)
		}
		for _, p := range []api.Plan{{}, routes([]int{1, 2}), routes(nil), routes([]int{1}), routes([]int{2, 1}), routes([]int{0}, []int{40}), routes([]int{1, 2}, []int{1, 2}), {Routes: make([][]int, 10)}} {
			mustFail(t, "may not be", x, p, api.ErrArg)
		}
	}
}

// costOf is what P8.1 says of a plan.
func costOf(x api.Instance, p api.Plan) (int, api.Errno) {
	if !inst.May(x) {
		return 0, api.ErrArg
	}
	if len(p.Routes) > x.Cars {
		return 0, api.ErrFull
	}
	cost, all := 0, []int{}
	for _, route := range p.Routes {
		if len(route) == 0 {
			return 0, api.ErrArg
		}
		_, far, err := sched.Times(x, route)
		if err != api.OK {
			return 0, err
		}
		cost += far
		all = append(all, route...)
	}
	slices.Sort(all)
	if len(slices.Compact(slices.Clone(all))) < len(all) {
		return 0, api.ErrTwice
	}
	if !slices.Equal(all, row(1, 2*x.Pairs)) {
		return 0, api.ErrNone
	}
	return cost, api.OK
}

// P8.1, P8.4: all plans of up to 4 routes out of some, on each number of cars up to 4, held against the chapter's words.
func TestAllShortPlans(t *testing.T) {
	some := [][]int{{}, {1, 4}, {2, 5}, {3, 6}, {3, 6, 1, 4}, {1, 2, 5, 4}, {2, 3, 5, 6}, {1, 4, 2, 5, 3, 6}}
	for _, b := range wrongRoutes() {
		some = append(some, b.route)
	}
	seen := map[api.Errno]int{}
	var goOn func(p api.Plan)
	goOn = func(p api.Plan) {
		for cars := 1; cars <= 4; cars++ {
			want, err := costOf(three(cars), p)
			mustCost(t, "some routes", three(cars), p, want, err)
			seen[err]++
		}
		if len(p.Routes) < 4 {
			for _, route := range some {
				goOn(api.Plan{Routes: append(slices.Clone(p.Routes), route)})
			}
		}
	}
	goOn(api.Plan{})
	for _, err := range []api.Errno{api.OK, api.ErrArg, api.ErrNone, api.ErrTwice, api.ErrFull, api.ErrLate, api.ErrOrder} {
		if seen[err] < 20 {
			t.Errorf("too few plans with error %d: %v", err, seen)
		}
	}
}

// P8.4: routes in another order cost the same, also where the plan is none.
func TestOtherOrderCostsTheSame(t *testing.T) {
	s := lcg(1)
	for range 400 {
		cars := 1 + s.below(5)
		x, p := sixteen(cars), split(cars)
		for i := range x.Stops {
			x.Stops[i].X, x.Stops[i].Y = s.below(10001), s.below(10001)
		}
		if s.below(3) == 0 {
			p.Routes[s.below(cars)] = [][]int{{1, 17}, {}, {5}, {33}}[s.below(4)]
		}
		want, err := plan.Cost(x, p)
		for _, q := range orders(p) {
			got, e := plan.Cost(x, q)
			if got != want || (e == api.OK) != (err == api.OK) {
				t.Fatalf("%d costs %d, %d; %d costs %d, %d", p.Routes, want, err, q.Routes, got, e)
			}
			if got, _ := plan.Cost(x, plan.Sorted(q)); e == api.OK && got != want {
				t.Fatalf("%d costs %d; sorted it costs %d", p.Routes, want, got)
			}
		}
	}
}

// P8.2: the example of the chapter, and routes without stops: none, one, several, all.
func TestSorted(t *testing.T) {
	mustSort(t, "the example", routes([]int{3, 4}, []int{1, 2}), routes([]int{1, 2}, []int{3, 4}))
	mustSort(t, "sorted", routes([]int{1, 2}, []int{3, 4}), routes([]int{1, 2}, []int{3, 4}))
	mustSort(t, "the first stops alone count", routes([]int{2, 1}, []int{1, 9, 9}, []int{3}), routes([]int{1, 9, 9}, []int{2, 1}, []int{3}))
	mustSort(t, "a route stays as it is", routes([]int{3, 2, 1, 3, 2, 1}), routes([]int{3, 2, 1, 3, 2, 1}))
	for _, none := range [][]int{nil, {}} {
		mustSort(t, "one without stops, first", routes(none, []int{3, 4}, []int{1, 2}), routes([]int{1, 2}, []int{3, 4}))
		mustSort(t, "one without stops, between", routes([]int{3, 4}, none, []int{1, 2}), routes([]int{1, 2}, []int{3, 4}))
		mustSort(t, "one without stops, last", routes([]int{3, 4}, []int{1, 2}, none), routes([]int{1, 2}, []int{3, 4}))
		mustSort(t, "several", routes(none, none, []int{3, 4}, none, []int{1, 2}, none, none), routes([]int{1, 2}, []int{3, 4}))
		mustSort(t, "all but one", routes(none, []int{0}, none), routes([]int{0}))
		mustSort(t, "all", routes(none, none, none), api.Plan{})
		mustSort(t, "the only one", routes(none), api.Plan{})
	}
	mustSort(t, "no routes", api.Plan{}, api.Plan{})
	mustSort(t, "no routes, but a list", api.Plan{Routes: [][]int{}}, api.Plan{})
}

// P8.2: stops of any numbers.
func TestSortedNumbers(t *testing.T) {
	l := []int{math.MinInt, math.MinInt + 1, -1 << 32, -33, -2, -1, 0, 1, 2, 32, 33, 1 << 32, math.MaxInt - 1, math.MaxInt}
	var want api.Plan
	for _, n := range l {
		want.Routes = append(want.Routes, []int{n, -n})
	}
	p := clonePlan(want)
	for range l {
		// Each number is the first one once.
		p.Routes = append(p.Routes[1:], p.Routes[0])
		mustSort(t, "from another one on", p, want)
		slices.Reverse(p.Routes)
		mustSort(t, "the other way round", p, want)
		slices.Reverse(p.Routes)
	}
	for _, m := range l {
		for _, n := range l {
			if m < n {
				mustSort(t, "the greater one first", routes([]int{n}, []int{m}), routes([]int{m}, []int{n}))
				mustSort(t, "the lesser one first", routes([]int{m}, []int{n}), routes([]int{m}, []int{n}))
			}
		}
	}
}

// P8.2: routes with the same first stop stay in the order of the plan, however many there are.
func TestSortedStays(t *testing.T) {
	mustSort(t, "the later stops fall", routes([]int{3, 4}, nil, []int{1, 2}, []int{3, 1}), routes([]int{1, 2}, []int{3, 4}, []int{3, 1}))
	mustSort(t, "they rise", routes([]int{3, 1}, nil, []int{1, 2}, []int{3, 4}), routes([]int{1, 2}, []int{3, 1}, []int{3, 4}))
	mustSort(t, "the longer one first", routes([]int{3, 1}, []int{3}, []int{2}), routes([]int{2}, []int{3, 1}, []int{3}))
	mustSort(t, "the shorter one first", routes([]int{3}, []int{3, 1}, []int{2}), routes([]int{2}, []int{3}, []int{3, 1}))
	mustSort(t, "the same ones", routes([]int{3}, []int{3}, []int{3}), routes([]int{3}, []int{3}, []int{3}))
	s := lcg(2)
	for _, many := range []int{2, 5, 11, 12, 13, 20, 21, 50, 100, 1000, 5000} {
		for _, first := range []int{1, 2, 3, 7, 60} {
			var p, want api.Plan
			for k := range many {
				p.Routes = append(p.Routes, []int{s.below(first) - 1, many - k})
			}
			for n := -1; n < first; n++ {
				for _, route := range p.Routes {
					if route[0] == n {
						want.Routes = append(want.Routes, route)
					}
				}
			}
			mustSort(t, "many", p, want)
		}
	}
}

// P8.2: plans whose routes stand in another order, with routes without stops anywhere, are the same.
func TestSame(t *testing.T) {
	p := routes([]int{5, 6, 1}, []int{3, 4}, []int{1, 2}, []int{-7})
	for _, q := range orders(p) {
		mustBeSame(t, "another order", p, q, true)
		mustBeSame(t, "sorted", p, plan.Sorted(q), true)
		for k := 0; k <= 4; k++ {
			mustBeSame(t, "and a route without stops", p, api.Plan{Routes: slices.Insert(slices.Clone(q.Routes), k, nil)}, true)
			mustBeSame(t, "and two of them", p, api.Plan{Routes: slices.Insert(slices.Clone(q.Routes), k, []int{}, nil)}, true)
		}
	}
	none := []api.Plan{{}, {Routes: [][]int{}}, routes(nil), routes([]int{}), routes(nil, []int{}, nil)}
	for _, q := range none {
		mustBeSame(t, "something and nothing", p, q, false)
		mustBeSame(t, "one stop and nothing", routes([]int{0}), q, false)
		for _, r := range none {
			mustBeSame(t, "nothing", q, r, true)
		}
	}
}

// P8.2: plans that are the same but for one thing.
func TestNotSame(t *testing.T) {
	p := routes([]int{1, 4, 2, 5}, []int{3, 6}, []int{7, 8, 9})
	for i, route := range p.Routes {
		for k := range route {
			for _, n := range []int{0, -1, 1 << 40, math.MinInt, math.MaxInt, route[k] + 1, -route[k]} {
				q := clonePlan(p)
				q.Routes[i][k] = n
				mustBeSame(t, "another stop", p, q, false)
			}
			q := clonePlan(p)
			q.Routes[i] = slices.Delete(q.Routes[i], k, k+1)
			mustBeSame(t, "one stop less", p, q, false)
			q.Routes[i] = slices.Insert(slices.Clone(route), k, 6)
			mustBeSame(t, "one stop more", p, q, false)
			if k > 0 {
				q = clonePlan(p)
				q.Routes[i][k-1], q.Routes[i][k] = q.Routes[i][k], q.Routes[i][k-1]
				mustBeSame(t, "two stops in another order", p, q, false)
			}
		}
		q := clonePlan(p)
		q.Routes[i] = append(q.Routes[i], 0)
		mustBeSame(t, "one stop more at the end", p, q, false)
		q.Routes = append(clonePlan(p).Routes, slices.Clone(route))
		mustBeSame(t, "one route twice", p, q, false)
		q.Routes = slices.Delete(clonePlan(p).Routes, i, i+1)
		mustBeSame(t, "one route less", p, q, false)
	}
	mustBeSame(t, "one route more", p, routes(append(clonePlan(p).Routes, []int{10})...), false)
	mustBeSame(t, "the same stops on other routes", p, routes([]int{1, 4, 2}, []int{5, 3, 6}, []int{7, 8, 9}), false)
	mustBeSame(t, "all on one route", p, routes([]int{1, 4, 2, 5, 3, 6, 7, 8, 9}), false)
	// Their order counts, as neither goes ahead of the other one in Sorted.
	mustBeSame(t, "the same first stop, in another order", routes([]int{3, 4}, []int{3, 1}), routes([]int{3, 1}, []int{3, 4}), false)
	mustBeSame(t, "the same first stop, in the same order", routes([]int{3, 4}, []int{1}, []int{3, 1}), routes([]int{1}, []int{3, 4}, []int{3, 1}), true)
	mustBeSame(t, "routes that are the same", routes([]int{3, 4}, []int{3, 4}), routes([]int{3, 4}, nil, []int{3, 4}), true)
	mustBeSame(t, "thrice and twice", routes([]int{3, 4}, []int{3, 4}), routes([]int{3, 4}, []int{3, 4}, []int{3, 4}), false)
}

// sortedOf is what P8.2 says of a plan's order: one by one the first of those that are left whose first stop is the least.
func sortedOf(p api.Plan) api.Plan {
	var rest, want [][]int
	for _, route := range p.Routes {
		if len(route) > 0 {
			rest = append(rest, route)
		}
	}
	for len(rest) > 0 {
		least := 0
		for k := range rest {
			if rest[k][0] < rest[least][0] {
				least = k
			}
		}
		want = append(want, rest[least])
		rest = slices.Delete(rest, least, least+1)
	}
	return api.Plan{Routes: want}
}

// P8.2, P8.3: all plans of up to 4 routes out of some, held against the chapter's words; and each of up to 3 against each.
func TestAllShortOrders(t *testing.T) {
	some := [][]int{nil, {1}, {1, 1}, {1, 2}, {2}, {2, 1}, {-1}, {-1, 1}}
	var few []api.Plan
	var goOn func(p api.Plan)
	goOn = func(p api.Plan) {
		want := sortedOf(p)
		mustSort(t, "some routes", p, want)
		mustPrint(t, p, string(scan.Print(want.Routes)))
		if len(p.Routes) < 3 {
			few = append(few, p)
		}
		if len(p.Routes) < 4 {
			for _, route := range some {
				goOn(api.Plan{Routes: append(slices.Clone(p.Routes), route)})
			}
		}
	}
	goOn(api.Plan{})
	for _, p := range few {
		for _, q := range few {
			mustBeSame(t, "some routes", p, q, alike(sortedOf(p), sortedOf(q)))
		}
	}
}

// P8.3: the example of the chapter, and other plans, written out.
func TestPrint(t *testing.T) {
	mustPrint(t, routes([]int{3, 4}, []int{1, 2}), "1 2\n3 4\n")
	mustPrint(t, routes([]int{3, 4}, nil, []int{1, 2}, []int{}, []int{3, 1}), "1 2\n3 4\n3 1\n")
	mustPrint(t, routes([]int{7}), "7\n")
	mustPrint(t, routes([]int{0, -5, 10}, []int{-1}), "-1\n0 -5 10\n")
	mustPrint(t, routes([]int{math.MaxInt, math.MinInt}), "9223372036854775807 -9223372036854775808\n")
	for _, p := range []api.Plan{{}, {Routes: [][]int{}}, routes(nil), routes(nil, []int{}, nil)} {
		mustPrint(t, p, "")
	}
	mustPrint(t, routes(row(1, 32)), "1 2 3 4 5 6 7 8 9 10 11 12 13 14 15 16 17 18 19 20 21 22 23 24 25 26 27 28 29 30 31 32\n")
	mustPrint(t, routes(make([]int, 5000)), strings.Repeat("0 ", 4999)+"0\n")
}

// P8.3: texts of plans: the routes are those of the lines, in their order.
func TestParse(t *testing.T) {
	mustParse(t, "3 4\n1 2", routes([]int{3, 4}, []int{1, 2}), api.OK)
	mustParse(t, "1 2\n3 4\n", routes([]int{1, 2}, []int{3, 4}), api.OK)
	mustParse(t, "  3   4 # the first\n\n   \n#all else\n 007# \n3\n", routes([]int{3, 4}, []int{7}, []int{3}), api.OK)
	mustParse(t, "1 # 0 -1 x\n#0\n2", routes([]int{1}, []int{2}), api.OK)
	mustParse(t, "1 1 1\n1 1 1", routes([]int{1, 1, 1}, []int{1, 1, 1}), api.OK)
	mustParse(t, "999999999999 000000000001 33", routes([]int{999999999999, 1, 33}), api.OK)
	for _, text := range []string{"", "\n", " ", " \n\n", "#", "# 0", "#\n  #x\n", strings.Repeat("\n", api.MaxText)} {
		mustParse(t, text, api.Plan{}, api.OK)
	}
	mustParse(t, strings.Repeat(" ", api.MaxText-1)+"1", routes([]int{1}), api.OK)
	mustParse(t, strings.Repeat("1\n", api.MaxText/2), api.Plan{Routes: slices.Repeat([][]int{{1}}, api.MaxText/2)}, api.OK)
}

// P8.3: each of scan's errors, and numbers below 1, with no plan beside the error.
func TestParseErrors(t *testing.T) {
	for _, text := range []string{"x", "1 2\n3 x", "1\t2", "1\r\n", "-", "1 -", "1-2", "+1", "1 2\n-x", "--1", "- 1", "1.5", "0000000000001", "1000000000000", "1 2\n3 1234567890123"} {
		mustParse(t, text, api.Plan{}, api.ErrForm)
	}
	for _, n := range []string{"0", "-0", "-1", "-7", "00", "000000000000", "-000000000001", "-999999999999"} {
		for _, text := range []string{"%", " % # 1", "% 1 2", "1 % 2", "1 2 %", "%\n1", "1\n%", "1\n%\n2", "1 2\n3 %\n4 5", "1 2\n3 4\n5 %", "%\n%"} {
			mustParse(t, strings.ReplaceAll(text, "%", n), api.Plan{}, api.ErrForm)
		}
	}
	// Scan's error is told ahead of a number below 1.
	for _, head := range []string{"1\n", "0\n", "-1 0\n", "x\n", "0\nx\n", "1 2\n0 0\n-7\n"} {
		mustParse(t, head+strings.Repeat(" ", api.MaxText+1-len(head)), api.Plan{}, api.ErrFull)
		mustParse(t, strings.Repeat("\n", api.MaxText+1-len(head))+head, api.Plan{}, api.ErrFull)
	}
	mustParse(t, strings.Repeat("0", 1<<20), api.Plan{}, api.ErrFull)
	mustParse(t, "0"+strings.Repeat(" ", api.MaxText-1), api.Plan{}, api.ErrForm)
	mustParse(t, "0\nx", api.Plan{}, api.ErrForm)
}

// P8.3: all texts of up to 6 bytes of some kinds, held against the chapter's words.
func TestAllShortTexts(t *testing.T) {
	seen := map[api.Errno]int{}
	var goOn func(text string)
	goOn = func(text string) {
		lines, err := scan.Lines([]byte(text))
		for _, n := range slices.Concat(lines...) {
			if n < 1 {
				lines, err = nil, api.ErrForm
			}
		}
		mustParse(t, text, api.Plan{Routes: lines}, err)
		seen[err]++
		if len(text) < 6 {
			for _, b := range "012- \n#" {
				goOn(text + string(b))
			}
		}
	}
	goOn("")
	if seen[api.OK] < 1000 || seen[api.ErrForm] < 1000 {
		t.Errorf("too few texts with each error: %v", seen)
	}
}

// P8.4: what is printed is parsed as Sorted has it.
func TestPrintedIsParsed(t *testing.T) {
	s := lcg(3)
	for range 3000 {
		var p api.Plan
		for range s.below(9) {
			var route []int
			for range s.below(8) {
				route = append(route, 1+s.below([]int{2, 32, 999999999999}[s.below(3)]))
			}
			p.Routes = append(p.Routes, route)
		}
		q, err := plan.Parse(plan.Print(p))
		if err != api.OK || !alike(q, plan.Sorted(p)) || !plan.Same(p, q) {
			t.Fatalf("%d is parsed as %d, %d", p.Routes, q.Routes, err)
		}
		if again := plan.Print(q); !bytes.Equal(again, plan.Print(p)) {
			t.Fatalf("%d is printed as %q behind that", p.Routes, again)
		}
	}
	for _, p := range []api.Plan{{}, routes(nil), routes([]int{3, 4}, []int{1, 2}), routes([]int{3, 4}, nil, []int{1, 2}, []int{3, 1}), split(1), split(8)} {
		if q, err := plan.Parse(plan.Print(p)); err != api.OK || !alike(q, sortedOf(p)) {
			t.Errorf("%d is parsed as %d, %d", p.Routes, q.Routes, err)
		}
	}
	// A number that no text of a plan has is printed, but not parsed; nor is a text that is too long.
	for _, n := range []int{0, -1, 1000000000000, math.MinInt, math.MaxInt} {
		mustParse(t, string(plan.Print(routes([]int{1, n}))), api.Plan{}, api.ErrForm)
	}
	mustParse(t, string(plan.Print(api.Plan{Routes: slices.Repeat([][]int{{1}}, api.MaxText/2+1)})), api.Plan{}, api.ErrFull)
}

// P8.4, P8.1: a plan that may be costs the same behind printing and parsing.
func TestParsedCostsTheSame(t *testing.T) {
	for cars := 1; cars <= 8; cars++ {
		x, p := sixteen(cars), split(cars)
		want, err := plan.Cost(x, p)
		q, _ := plan.Parse(plan.Print(p))
		if got, e := plan.Cost(x, q); err != api.OK || got != want || e != err {
			t.Errorf("%d costs %d, %d; parsed it costs %d, %d", p.Routes, want, err, got, e)
		}
	}
}

// R3: what is handed in stays as it was, also behind the ends of its lists.
func TestHandedInStays(t *testing.T) {
	make3 := func() [][]int {
		l := [][]int{{3, 6, -8, -8}, {1, 4, 2, 5, -9}, {7, 7, 7}}
		l[0], l[1] = l[0][:2], l[1][:4]
		return l
	}
	l := make3()
	p := api.Plan{Routes: l[:2]}
	x := three(2)
	stops := append(x.Stops, api.Stop{X: 5})
	x.Stops = stops[:7]
	plan.Cost(x, p)
	plan.Sorted(p)
	plan.Same(p, p)
	plan.Print(p)
	for i, want := range make3() {
		if !slices.Equal(l[i][:cap(l[i])], want[:cap(want)]) {
			t.Errorf("the route is now %d, it was %d", l[i][:cap(l[i])], want[:cap(want)])
		}
	}
	if !slices.Equal(stops, append(three(2).Stops, api.Stop{X: 5})) {
		t.Errorf("the stops are now %+v", stops)
	}
	text := []byte("3 4\n1 2\n0 0")
	plan.Parse(text[:8])
	plan.Parse(text)
	if string(text) != "3 4\n1 2\n0 0" {
		t.Errorf("the text is now %q", text)
	}
}

// R3: what Sorted answers shares nothing with the plan, nor its routes with each other; the plan's own may share.
func TestSortedSharesNothing(t *testing.T) {
	one := []int{3, 4, 5, 6}
	p := routes(one[2:], one[:2], one, one, []int{1})
	want := [][]int{{1}, {3, 4}, {3, 4, 5, 6}, {3, 4, 5, 6}, {5, 6}}
	s := plan.Sorted(p)
	clear(one)
	clear(p.Routes)
	if !alike(s, routes(want...)) {
		t.Errorf("a change of the plan made its Sorted %d", s.Routes)
	}
	for i := range s.Routes {
		one := []int{3, 4, 5, 6}
		p := routes(one[2:], one[:2], one, one, []int{1})
		was := clonePlan(p)
		s := plan.Sorted(p)
		route := s.Routes[i][:cap(s.Routes[i])]
		for k := range route {
			route[k] = -1
		}
		if !reflect.DeepEqual(p, was) {
			t.Errorf("a change of route %d of Sorted made the plan %d", i, p.Routes)
		}
		for k := range s.Routes {
			if k != i && !slices.Equal(s.Routes[k], want[k]) {
				t.Errorf("a change of route %d of Sorted made route %d %d", i, k, s.Routes[k])
			}
		}
		clear(s.Routes[:cap(s.Routes)])
		if !reflect.DeepEqual(p, was) {
			t.Errorf("a change of Sorted's routes made the plan %d", p.Routes)
		}
	}
	// A plan that is sorted is copied as well.
	p = routes([]int{1, 2}, []int{3, 4})
	s = plan.Sorted(p)
	clear(s.Routes[0])
	s.Routes[1] = nil
	if !alike(p, routes([]int{1, 2}, []int{3, 4})) {
		t.Errorf("a change of Sorted made the plan %d", p.Routes)
	}
}

// R3: what Parse and Print answer shares nothing with what was handed in, nor with another answer.
func TestTextsShareNothing(t *testing.T) {
	text := []byte("3 4\n1 2\n5 6 7")
	want := routes([]int{3, 4}, []int{1, 2}, []int{5, 6, 7})
	p, _ := plan.Parse(text)
	for i := range p.Routes {
		q, _ := plan.Parse(text)
		clear(q.Routes[i][:cap(q.Routes[i])])
		for k := range q.Routes {
			if k != i && !slices.Equal(q.Routes[k], want.Routes[k]) {
				t.Errorf("a change of route %d made route %d %d", i, k, q.Routes[k])
			}
		}
	}
	if string(text) != "3 4\n1 2\n5 6 7" || !alike(p, want) {
		t.Errorf("a change of another answer made the text %q and the plan %d", text, p.Routes)
	}
	printed, other := plan.Print(p), plan.Print(p)
	clear(text)
	clear(other[:cap(other)])
	if !alike(p, want) || string(printed) != "1 2\n3 4\n5 6 7\n" || !bytes.Equal(plan.Print(p), printed) {
		t.Errorf("a change of a text made the plan %d and its text %q", p.Routes, printed)
	}
	clear(p.Routes[0])
	if string(printed) != "1 2\n3 4\n5 6 7\n" {
		t.Errorf("a change of the plan made its text %q", printed)
	}
}

// R5: no answer hangs on what was asked before.
func TestAskedAgain(t *testing.T) {
	for range 30 {
		TestCost(t)
		TestTwiceAheadOfNone(t)
		TestSorted(t)
		TestPrint(t)
		TestParse(t)
		mustFail(t, "noughts", api.Instance{}, routes([]int{1, 2}), api.ErrArg)
		mustParse(t, "3 0", api.Plan{}, api.ErrForm)
	}
}
