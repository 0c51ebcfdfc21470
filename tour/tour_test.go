package tour_test

import (
	"fmt"
	"math"
	"reflect"
	"slices"
	"testing"

	"haulier/api"
	"haulier/plan"
	"haulier/tour"
)

// lcg is a row of numbers that are spread out, the same in each run.
type lcg uint64

func (s *lcg) below(n int) int {
	*s = *s*6364136223846793005 + 1442695040888963407
	// The low bits of such a row repeat soon: only the high ones are taken.
	return int(uint64(*s) >> 33 % uint64(n))
}

func routes(l ...[]int) api.Plan { return api.Plan{Routes: l} }

// clonePlan keeps apart what is nil and what is empty.
func clonePlan(p api.Plan) api.Plan {
	p.Routes = slices.Clone(p.Routes)
	for i := range p.Routes {
		p.Routes[i] = slices.Clone(p.Routes[i])
	}
	return p
}

// alike tells whether both plans have the same routes in the same order.
func alike(p, q api.Plan) bool {
	return slices.EqualFunc(p.Routes, q.Routes, slices.Equal[[]int])
}

// row is the numbers from least to most.
func row(least, most int) []int {
	var l []int
	for n := least; n <= most; n++ {
		l = append(l, n)
	}
	return l
}

// mustJoin asks for just this tour, and that the plan stays as it was.
func mustJoin(t *testing.T, p api.Plan, want ...int) {
	t.Helper()
	was := clonePlan(p)
	if got := tour.Join(p); !slices.Equal(got, want) {
		t.Errorf("Join(%d): %d, want %d", p.Routes, got, want)
	}
	if !reflect.DeepEqual(p, was) {
		t.Errorf("the plan is now %d, it was %d", p.Routes, was.Routes)
	}
}

// mustAnswer asks for just these routes, or for none and this error, and that the tour stays as it was.
func mustAnswer(t *testing.T, l []int, want api.Plan, err api.Errno) {
	t.Helper()
	was := slices.Clone(l)
	if got, e := tour.Split(l); !alike(got, want) || e != err {
		t.Errorf("Split(%d): %d, %d; want %d, %d", l, got.Routes, e, want.Routes, err)
	}
	if !slices.Equal(l, was) {
		t.Errorf("the tour is now %d, it was %d", l, was)
	}
}

// mustSplit asks for just these routes.
func mustSplit(t *testing.T, l []int, want ...[]int) {
	t.Helper()
	mustAnswer(t, l, routes(want...), api.OK)
}

// mustFail asks for an error with no routes beside it.
func mustFail(t *testing.T, err api.Errno, l ...int) {
	t.Helper()
	mustAnswer(t, l, api.Plan{}, err)
}

// P9.1: the chapter's example, and ordinary plans, written out.
func TestJoin(t *testing.T) {
	mustJoin(t, routes([]int{3, 4}, []int{1, 2}), 1, 2, 0, 3, 4)
	mustJoin(t, routes([]int{1, 2}, []int{3, 4}), 1, 2, 0, 3, 4)
	mustJoin(t, routes([]int{1, 2}), 1, 2)
	mustJoin(t, routes([]int{7}), 7)
	mustJoin(t, routes([]int{2, 1}), 2, 1)
	mustJoin(t, routes([]int{3, 6}, []int{2, 5}, []int{1, 4}), 1, 4, 0, 2, 5, 0, 3, 6)
	mustJoin(t, routes([]int{8}, []int{10, 2, 1}, []int{9, 30}), 8, 0, 9, 30, 0, 10, 2, 1)
	mustJoin(t, routes([]int{2, 2, 2}, []int{1, 1}), 1, 1, 0, 2, 2, 2)
	mustJoin(t, routes(row(1, 32)), row(1, 32)...)
	mustJoin(t, routes([]int{8}, []int{7}, []int{6}, []int{5}, []int{4}, []int{3}, []int{2}, []int{1}), 1, 0, 2, 0, 3, 0, 4, 0, 5, 0, 6, 0, 7, 0, 8)
}

// P9.1: no routes, and only routes without stops, are a tour without stops, and without a yard.
func TestJoinOfNoStops(t *testing.T) {
	for _, p := range []api.Plan{{}, {Routes: [][]int{}}, routes(nil), routes([]int{}), routes(nil, []int{}, nil), {Routes: make([][]int, 1000)}} {
		mustJoin(t, p)
	}
}

// P9.1: of a route without stops there is no yard, whether it is the first, a middle or the last one.
func TestJoinWithoutStopsBetween(t *testing.T) {
	for _, none := range [][]int{nil, {}} {
		mustJoin(t, routes(none, []int{3, 4}, []int{1, 2}), 1, 2, 0, 3, 4)
		mustJoin(t, routes([]int{3, 4}, none, []int{1, 2}), 1, 2, 0, 3, 4)
		mustJoin(t, routes([]int{3, 4}, []int{1, 2}, none), 1, 2, 0, 3, 4)
		mustJoin(t, routes([]int{3, 4}, none, none, []int{1, 2}), 1, 2, 0, 3, 4)
		mustJoin(t, routes(none, []int{3, 4}, none, []int{1, 2}, none), 1, 2, 0, 3, 4)
		mustJoin(t, routes(none, []int{5}), 5)
		mustJoin(t, routes([]int{5}, none), 5)
		mustJoin(t, routes(none, []int{5}, none), 5)
	}
}

// P9.1: routes with the same first stop stay in the order of the plan.
func TestJoinWithSameFirstStops(t *testing.T) {
	mustJoin(t, routes([]int{1, 3}, []int{1, 2}), 1, 3, 0, 1, 2)
	mustJoin(t, routes([]int{1, 2}, []int{1, 3}), 1, 2, 0, 1, 3)
	mustJoin(t, routes([]int{2, 9}, []int{1, 5}, []int{2, 8}, []int{1, 4}, []int{2}), 1, 5, 0, 1, 4, 0, 2, 9, 0, 2, 8, 0, 2)
	mustJoin(t, routes([]int{1}, []int{1}, []int{1}), 1, 0, 1, 0, 1)
	mustJoin(t, routes([]int{1, 2}, nil, []int{1}), 1, 2, 0, 1)
	// So many that a sort that is not stable would have mixed them.
	var many api.Plan
	var want []int
	for k := range 200 {
		many.Routes = append(many.Routes, []int{1, 1000 - k})
		if k > 0 {
			want = append(want, 0)
		}
		want = append(want, 1, 1000-k)
	}
	mustJoin(t, many, want...)
}

// P9.1: stops that are 0 or below are joined as they are, and so are the least and the greatest that there are.
func TestJoinOfWrongStops(t *testing.T) {
	mustJoin(t, routes([]int{0}), 0)
	mustJoin(t, routes([]int{0}, []int{0}), 0, 0, 0)
	mustJoin(t, routes([]int{0, 0}), 0, 0)
	mustJoin(t, routes([]int{1, 0, 2}, []int{0, 5}, []int{-1, 0}), -1, 0, 0, 0, 5, 0, 1, 0, 2)
	mustJoin(t, routes([]int{-1}, []int{-2, 3}, []int{1, -7}), -2, 3, 0, -1, 0, 1, -7)
	mustJoin(t, routes([]int{math.MaxInt}, []int{math.MinInt}), math.MinInt, 0, math.MaxInt)
	mustJoin(t, routes([]int{math.MinInt}, []int{math.MaxInt}, []int{0}), math.MinInt, 0, 0, 0, math.MaxInt)
	mustJoin(t, routes([]int{1, math.MaxInt, math.MinInt}, []int{-1, math.MinInt}), -1, math.MinInt, 0, 1, math.MaxInt, math.MinInt)
	mustJoin(t, routes([]int{math.MaxInt, 1}, []int{math.MaxInt - 1, 2}, []int{math.MinInt + 1, 3}, []int{math.MinInt, 4}), math.MinInt, 4, 0, math.MinInt+1, 3, 0, math.MaxInt-1, 2, 0, math.MaxInt, 1)
}

// joined is a tour by the chapter's words, route by route.
func joined(p api.Plan) []int {
	var l []int
	for _, route := range plan.Sorted(p).Routes {
		l = append(append(l, 0), route...)
	}
	// Ahead of the first route there is no yard.
	return l[min(1, len(l)):]
}

// P9.1: all plans of up to 4 routes out of some, held against the chapter's words.
func TestJoinOfAllShortPlans(t *testing.T) {
	some := [][]int{nil, {1}, {1, 1}, {1, 2}, {2}, {2, 0}, {0}, {-1, 1}}
	var goOn func(p api.Plan)
	goOn = func(p api.Plan) {
		mustJoin(t, p, joined(p)...)
		if len(p.Routes) < 4 {
			for _, route := range some {
				goOn(api.Plan{Routes: append(slices.Clone(p.Routes), route)})
			}
		}
	}
	goOn(api.Plan{})
}

// P9.2: the chapter's example, the tour of the whole's, and ordinary ones, written out.
func TestSplit(t *testing.T) {
	mustSplit(t, nil)
	mustSplit(t, []int{})
	mustSplit(t, []int{1}, []int{1})
	mustSplit(t, []int{33}, []int{33})
	mustSplit(t, []int{math.MaxInt}, []int{math.MaxInt})
	mustSplit(t, []int{1, 2}, []int{1, 2})
	mustSplit(t, []int{2, 1}, []int{2, 1})
	mustSplit(t, []int{5, 5, 5}, []int{5, 5, 5})
	mustSplit(t, row(1, 32), row(1, 32))
	mustSplit(t, []int{1, 2, 0, 3, 4}, []int{1, 2}, []int{3, 4})
	mustSplit(t, []int{1, 0, 2}, []int{1}, []int{2})
	mustSplit(t, []int{1, 0, 2, 0, 3, 0, 4, 0, 5, 0, 6, 0, 7, 0, 8}, []int{1}, []int{2}, []int{3}, []int{4}, []int{5}, []int{6}, []int{7}, []int{8})
	mustSplit(t, []int{8, 0, 9, 30, 0, 10, 2, 1}, []int{8}, []int{9, 30}, []int{10, 2, 1})
	mustSplit(t, []int{1, 4, 1, 0, 2, 4, 1, 0, 3}, []int{1, 4, 1}, []int{2, 4, 1}, []int{3})
	mustSplit(t, []int{1, math.MaxInt, 0, math.MaxInt - 1, 5, 0, math.MaxInt, 1}, []int{1, math.MaxInt}, []int{math.MaxInt - 1, 5}, []int{math.MaxInt, 1})
}

// P9.2: a yard that is not between two routes.
func TestSplitOfWrongYards(t *testing.T) {
	mustFail(t, api.ErrForm, 0)
	mustFail(t, api.ErrForm, 0, 0)
	mustFail(t, api.ErrForm, 0, 0, 0)
	mustFail(t, api.ErrForm, make([]int, 1000)...)
	mustFail(t, api.ErrForm, 0, 1, 0)
	for _, l := range [][]int{{1}, {1, 2}, {1, 0, 2}, {1, 2, 0, 3, 4}, {1, 4, 0, 2, 5, 0, 3, 6}} {
		mustFail(t, api.ErrForm, slices.Insert(slices.Clone(l), 0, 0)...)
		mustFail(t, api.ErrForm, slices.Insert(slices.Clone(l), 0, 0, 0)...)
		mustFail(t, api.ErrForm, append(slices.Clone(l), 0)...)
		mustFail(t, api.ErrForm, append(slices.Clone(l), 0, 0)...)
		for i, stop := range l {
			if stop == 0 {
				mustFail(t, api.ErrForm, slices.Insert(slices.Clone(l), i, 0)...)
				mustFail(t, api.ErrForm, slices.Insert(slices.Clone(l), i, 0, 0)...)
			}
		}
	}
	mustFail(t, api.ErrForm, 1, 0, 0, 2)
	mustFail(t, api.ErrForm, 1, 0, 0, 0, 2)
	mustFail(t, api.ErrForm, 1, 2, 0, 3, 0, 0, 4)
}

// P9.2: a number below 0 at each place, beside stops and instead of one or of a yard.
func TestSplitOfBelowNought(t *testing.T) {
	for _, below := range []int{-1, -2, -33, math.MinInt + 1, math.MinInt} {
		mustFail(t, api.ErrForm, below)
		mustFail(t, api.ErrForm, below, below)
		for _, l := range [][]int{{1}, {1, 2}, {1, 0, 2}, {1, 2, 0, 3, 4}, {1, 4, 0, 2, 5, 0, 3, 6}, row(1, 32)} {
			for i := 0; i <= len(l); i++ {
				mustFail(t, api.ErrForm, slices.Insert(slices.Clone(l), i, below)...)
				if i < len(l) {
					other := slices.Clone(l)
					other[i] = below
					mustFail(t, api.ErrForm, other...)
				}
			}
		}
	}
}

// P9.2: the first stop of a route is less than, the same as, or greater than that of the route ahead, which is not always the one that counts least.
func TestSplitOfWrongOrder(t *testing.T) {
	mustFail(t, api.ErrOrder, 2, 0, 1)
	mustFail(t, api.ErrOrder, 2, 0, 2)
	mustSplit(t, []int{2, 0, 3}, []int{2}, []int{3})
	mustFail(t, api.ErrOrder, 3, 4, 0, 1, 2)
	mustFail(t, api.ErrOrder, 3, 4, 0, 3, 4)
	mustFail(t, api.ErrOrder, math.MaxInt, 0, 1)
	mustFail(t, api.ErrOrder, math.MaxInt, 0, math.MaxInt)
	mustFail(t, api.ErrOrder, math.MaxInt, 0, math.MaxInt-1)
	mustSplit(t, []int{math.MaxInt - 1, 0, math.MaxInt}, []int{math.MaxInt - 1}, []int{math.MaxInt})
	// Only a later one is wrong.
	mustFail(t, api.ErrOrder, 1, 0, 3, 0, 2)
	mustFail(t, api.ErrOrder, 1, 0, 3, 0, 3)
	mustFail(t, api.ErrOrder, 1, 0, 2, 0, 3, 0, 1)
	mustFail(t, api.ErrOrder, 1, 0, 5, 0, 2, 0, 6)
	mustFail(t, api.ErrOrder, 1, 4, 0, 2, 5, 0, 3, 6, 0, 3)
	mustFail(t, api.ErrOrder, 1, 0, 2, 0, 3, 0, 4, 0, 5, 0, 6, 0, 8, 0, 7)
	// Only the first stops count, and only those of neighbours.
	mustSplit(t, []int{1, 9, 0, 2}, []int{1, 9}, []int{2})
	mustSplit(t, []int{1, 2, 0, 2, 1}, []int{1, 2}, []int{2, 1})
	mustFail(t, api.ErrOrder, 5, 1, 0, 2, 9)
	mustFail(t, api.ErrOrder, 5, 1, 0, 5, 9)
	mustSplit(t, []int{2, 1, 0, 3, 1, 1}, []int{2, 1}, []int{3, 1, 1})
}

// P9.2, R2: where both errors would fit ErrForm is told, wherever in the tour its reason stands.
func TestFormAheadOfOrder(t *testing.T) {
	for _, l := range [][]int{{2, 0, 1}, {2, 0, 2}, {3, 4, 0, 1, 2}, {1, 0, 3, 0, 2, 0, 4}, {4, 0, 3, 0, 2, 0, 1}} {
		mustFail(t, api.ErrOrder, l...)
		mustFail(t, api.ErrForm, slices.Insert(slices.Clone(l), 0, 0)...)
		mustFail(t, api.ErrForm, append(slices.Clone(l), 0)...)
		for i := 0; i <= len(l); i++ {
			mustFail(t, api.ErrForm, slices.Insert(slices.Clone(l), i, 0, 0)...)
			mustFail(t, api.ErrForm, slices.Insert(slices.Clone(l), i, -1)...)
			mustFail(t, api.ErrForm, slices.Insert(slices.Clone(l), i, math.MinInt)...)
		}
	}
}

// answerOf is what Split answers, by the chapter's words: what is wrong is looked for number by number, ahead of what lies between the yards.
func answerOf(l []int) (api.Plan, api.Errno) {
	for i, n := range l {
		first, last := i == 0, i == len(l)-1
		if n < 0 || n == 0 && (first || last || l[i+1] == 0) {
			return api.Plan{}, api.ErrForm
		}
	}
	var p api.Plan
	for i, n := range l {
		switch {
		case n == 0:
		case i == 0 || l[i-1] == 0:
			p.Routes = append(p.Routes, []int{n})
		default:
			k := len(p.Routes) - 1
			p.Routes[k] = append(p.Routes[k], n)
		}
	}
	for k, route := range p.Routes {
		if k > 0 && p.Routes[k-1][0] >= route[0] {
			return api.Plan{}, api.ErrOrder
		}
	}
	return p, api.OK
}

// P9.2, P9.3: all lists of up to 7 numbers out of some, held against the chapter's words; and what is split is joined again.
func TestSplitOfAllShortTours(t *testing.T) {
	seen := map[api.Errno]int{}
	var goOn func(l []int)
	goOn = func(l []int) {
		want, err := answerOf(l)
		mustAnswer(t, l, want, err)
		if err == api.OK {
			mustJoin(t, want, l...)
		}
		seen[err]++
		if len(l) < 7 {
			for _, n := range []int{-1, 0, 1, 2, 3} {
				goOn(append(slices.Clone(l), n))
			}
		}
	}
	goOn(nil)
	if seen[api.OK] < 1000 || seen[api.ErrForm] < 1000 || seen[api.ErrOrder] < 1000 {
		t.Errorf("too few tours with each error: %v", seen)
	}
}

// somePlan has up to 8 routes, without stops as well, whose stops are above 0; no two of them begin with the same stop.
func somePlan(s *lcg) api.Plan {
	var p api.Plan
	firsts := map[int]bool{}
	for range s.below(9) {
		var route []int
		most := []int{3, 32, math.MaxInt32}[s.below(3)]
		for range s.below(7) {
			route = append(route, 1+s.below(most))
		}
		if len(route) > 0 {
			if firsts[route[0]] {
				continue
			}
			firsts[route[0]] = true
		}
		p.Routes = append(p.Routes, route)
	}
	return p
}

// P9.3: what is joined is split again as Sorted has it; and what is split is joined again as it was.
func TestThereAndBack(t *testing.T) {
	s := lcg(9)
	several := 0
	for range 5000 {
		p := somePlan(&s)
		l := tour.Join(p)
		mustAnswer(t, l, plan.Sorted(p), api.OK)
		q, _ := tour.Split(l)
		mustJoin(t, q, l...)
		if len(q.Routes) > 2 {
			several++
		}
	}
	if several < 1000 {
		t.Errorf("only %d plans had several routes", several)
	}
	for _, p := range []api.Plan{{}, routes(nil), routes([]int{3, 4}, []int{1, 2}), routes([]int{3, 4}, nil, []int{1, 2}), routes([]int{math.MaxInt}, []int{1, math.MaxInt})} {
		mustAnswer(t, tour.Join(p), plan.Sorted(p), api.OK)
	}
}

// P9.3: what it leaves open is a stop that is not above 0, and two routes that begin with the same one; such tours are split by P9.2's words alone.
func TestThereAndNotBack(t *testing.T) {
	mustFail(t, api.ErrOrder, tour.Join(routes([]int{1, 2}, []int{1, 3}))...)
	mustFail(t, api.ErrOrder, tour.Join(routes([]int{3}, []int{1}, []int{3}))...)
	mustFail(t, api.ErrForm, tour.Join(routes([]int{0}))...)
	mustFail(t, api.ErrForm, tour.Join(routes([]int{1, 0}, []int{2}))...)
	mustFail(t, api.ErrForm, tour.Join(routes([]int{1}, []int{2, -3}))...)
	mustFail(t, api.ErrForm, tour.Join(routes([]int{math.MinInt}, []int{math.MaxInt}))...)
	mustSplit(t, tour.Join(routes([]int{1, 0, 2})), []int{1}, []int{2})
}

// R1: long lists are gone through.
func TestLong(t *testing.T) {
	const many = 1 << 18
	var p api.Plan
	var l []int
	for n := 1; n <= many; n++ {
		p.Routes = append(p.Routes, []int{many + 1 - n})
		l = append(l, n, 0)
	}
	l = l[:len(l)-1]
	if got := tour.Join(p); !slices.Equal(got, l) {
		t.Errorf("a tour of %d routes has %d numbers, want %d", many, len(got), len(l))
	}
	if q, err := tour.Split(l); err != api.OK || !alike(q, plan.Sorted(p)) {
		t.Errorf("a tour of %d routes is split into %d, %d", many, len(q.Routes), err)
	}
	one := slices.Repeat([]int{1}, many)
	if q, err := tour.Split(one); err != api.OK || !alike(q, routes(one)) {
		t.Errorf("a tour of %d stops is split into %d routes, %d", many, len(q.Routes), err)
	}
	if q, err := tour.Split(append(one, 0)); err != api.ErrForm || len(q.Routes) != 0 {
		t.Errorf("a tour of %d stops and a yard is split into %d routes, %d", many, len(q.Routes), err)
	}
}

// R3: what is handed in stays as it was, also behind the ends of its lists.
func TestHandedInStays(t *testing.T) {
	some := func() [][]int {
		l := [][]int{{3, 4, -8, -8}, {1, 2, 5, -9}, {7, 7, 7}}
		l[0], l[1] = l[0][:2], l[1][:3]
		return l
	}
	l := some()
	if got := tour.Join(api.Plan{Routes: l[:2]}); !slices.Equal(got, []int{1, 2, 5, 0, 3, 4}) {
		t.Errorf("the tour is %d", got)
	}
	for i, want := range some() {
		if !slices.Equal(l[i][:cap(l[i])], want[:cap(want)]) {
			t.Errorf("the route is now %d, it was %d", l[i][:cap(l[i])], want[:cap(want)])
		}
	}
	for _, c := range []struct {
		whole []int
		until int
	}{
		{[]int{1, 2, 0, 3, 4, 0, -7, 9}, 5},
		{[]int{1, 2, 0, 3, 4, 0, -7, 9}, 6},
		{[]int{1, 2, 3, 4, 5}, 1},
		{[]int{1, 2, 3, 4, 5}, 0},
		{[]int{2, 0, 1, 0, 0}, 3},
	} {
		l := slices.Clone(c.whole)
		want, err := answerOf(c.whole[:c.until])
		mustAnswer(t, l[:c.until], want, err)
		if !slices.Equal(l, c.whole) {
			t.Errorf("the tour and what is behind it are now %d, they were %d", l, c.whole)
		}
	}
}

// overwrite changes all of a list, and what an append to it would put behind its end.
func overwrite(l []int) {
	for i := range l {
		l[i] = -1
	}
	l = l[:cap(l)]
	for i := range l {
		l[i] = -2
	}
}

// R3: a tour shares nothing with the plan, of one route as well, nor with another tour.
func TestJoinSharesNothing(t *testing.T) {
	for _, p := range []api.Plan{routes([]int{1, 2, 3}), routes([]int{3, 4}, []int{1, 2}), routes([]int{1, 2}, nil, []int{3, 4}), routes(nil, []int{5})} {
		was := clonePlan(p)
		l, other := tour.Join(p), tour.Join(p)
		want := slices.Clone(l)
		overwrite(other)
		if !reflect.DeepEqual(p, was) || !slices.Equal(l, want) {
			t.Errorf("a change of a tour made the plan %d and another tour %d", p.Routes, l)
		}
		if again := tour.Join(p); !slices.Equal(again, want) {
			t.Errorf("a change of a tour made the next one %d, want %d", again, want)
		}
		for _, route := range p.Routes {
			overwrite(route)
		}
		clear(p.Routes)
		if !slices.Equal(l, want) {
			t.Errorf("a change of the plan made its tour %d, want %d", l, want)
		}
		overwrite(l)
	}
}

// R3: routes share nothing with the tour, nor with each other, nor with those of another answer.
func TestSplitSharesNothing(t *testing.T) {
	for _, was := range [][]int{{1}, {1, 2, 3}, {1, 2, 0, 3, 4}, {1, 0, 2, 0, 3}, {1, 9, 8, 7, 0, 2, 0, 3, 3, 3}} {
		want, _ := answerOf(was)
		l := append(slices.Clone(was), 0, 9, 9)[:len(was)]
		behind := slices.Clone(l[:len(was)+3])
		p, _ := tour.Split(l)
		for i := range want.Routes {
			q, _ := tour.Split(l)
			overwrite(q.Routes[i])
			for k := range q.Routes {
				if k != i && !slices.Equal(q.Routes[k], want.Routes[k]) {
					t.Errorf("a change of route %d of %d made route %d %d", i, was, k, q.Routes[k])
				}
			}
			clear(q.Routes[:cap(q.Routes)])
			if !slices.Equal(l[:len(behind)], behind) || !alike(p, want) {
				t.Errorf("a change of route %d of %d made the tour %d and another answer %d", i, was, l, p.Routes)
			}
		}
		overwrite(l)
		if !alike(p, want) {
			t.Errorf("a change of the tour %d made its routes %d", was, p.Routes)
		}
	}
}

// R3: an append to a route changes neither the tour nor the route behind it.
func TestAppendToRoute(t *testing.T) {
	l := []int{1, 2, 0, 3, 4, 0, 5}
	p, _ := tour.Split(l)
	for i := range p.Routes {
		p.Routes[i] = append(p.Routes[i], 70+i, 80+i)
	}
	want := routes([]int{1, 2, 70, 80}, []int{3, 4, 71, 81}, []int{5, 72, 82})
	if !alike(p, want) || !slices.Equal(l, []int{1, 2, 0, 3, 4, 0, 5}) {
		t.Errorf("appends made the routes %d, want %d; and the tour %d", p.Routes, want.Routes, l)
	}
	q := routes([]int{1, 2})
	a, b := tour.Join(q), tour.Join(q)
	a, b = append(a, 8), append(b, 9)
	q.Routes[0] = append(q.Routes[0], 7)
	if fmt.Sprint(a, b, q.Routes[0]) != "[1 2 8] [1 2 9] [1 2 7]" {
		t.Errorf("appends made %d, %d and %d", a, b, q.Routes[0])
	}
}

// R5: no answer hangs on what was asked before.
func TestAskedAgain(t *testing.T) {
	for range 30 {
		TestJoin(t)
		TestSplit(t)
		TestSplitOfWrongYards(t)
		TestSplitOfWrongOrder(t)
		mustJoin(t, routes([]int{0}, nil), 0)
		mustFail(t, api.ErrForm, 1, -1)
	}
}
