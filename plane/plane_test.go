package plane_test

import (
	"fmt"
	"math"
	"reflect"
	"slices"
	"testing"

	"haulier/api"
	"haulier/inst"
	"haulier/plane"
)

// lcg is a row of numbers that are spread out, the same in each run.
type lcg uint64

func (s *lcg) below(n int) int {
	*s = *s*6364136223846793005 + 1442695040888963407
	// The low bits of such a row repeat soon: only the high ones are taken.
	return int(uint64(*s) >> 33 % uint64(n))
}

// point is where a stop is: its X and its Y.
type point [2]int

func at(p point) api.Stop { return api.Stop{X: p[0], Y: p[1]} }

// through is an instance whose stops are at these places, the yard's first; there must be an odd number of them.
func through(places ...point) api.Instance {
	pairs := len(places) / 2
	x := api.Instance{Pairs: pairs, Cars: 3, Room: 40}
	for i, p := range places {
		s := api.Stop{X: p[0], Y: p[1], Ready: 300 + i, Due: 400 + i, Service: 5 + i}
		switch {
		case i == 0:
			s.Service = 0
		case i <= pairs:
			s.Demand = 10 + i
		default:
			s.Demand = -(10 + i - pairs)
		}
		x.Stops = append(x.Stops, s)
	}
	return x
}

// scattered is an instance of so many pairs, on a square of so many places a side: on a small one many are shared.
func scattered(row *lcg, pairs, side int) api.Instance {
	var places []point
	for range 2*pairs + 1 {
		places = append(places, point{row.below(side), row.below(side)})
	}
	return through(places...)
}

// example is chapter 5's: one pair.
func example() api.Instance {
	return api.Instance{Pairs: 1, Cars: 1, Room: 5, Stops: []api.Stop{
		{X: 0, Y: 0, Demand: 0, Ready: 0, Due: 100, Service: 0},
		{X: 3, Y: 0, Demand: 2, Ready: 0, Due: 50, Service: 1},
		{X: 0, Y: 4, Demand: -2, Ready: 0, Due: 90, Service: 1},
	}}
}

func clone(x api.Instance) api.Instance {
	x.Stops = slices.Clone(x.Stops)
	return x
}

// edges are numbers at which a coordinate counts as another one, and their neighbours; and such as are another number, if they are cut to fewer bits, or rounded.
func edges() []int {
	return []int{
		math.MinInt, math.MinInt + 1, -1 << 60, -1<<32 + 7, -1 << 31, -10001, -10000, -7, -1,
		0, 1, 2, 5000, 9998, 9999, 10000,
		10001, 10002, 20000, 1 << 16, 1 << 31, 1<<32 + 7, 1<<53 + 1, 1 << 60, math.MaxInt - 1, math.MaxInt,
	}
}

// squared is the square of how far it is, as P6.1 says it.
func squared(a, b api.Stop) int {
	counts := func(n int) int {
		if n < 0 {
			return 0
		}
		if n > 10000 {
			return 10000
		}
		return n
	}
	across, along := counts(a.X)-counts(b.X), counts(a.Y)-counts(b.Y)
	return across*across + along*along
}

// isRoot tells whether r is the least number from 0 on whose square is at least n.
func isRoot(r, n int) bool {
	if n == 0 {
		return r == 0
	}
	return r > 0 && r < 1<<30 && r*r >= n && (r-1)*(r-1) < n
}

// mustBeRight holds Far against P6.1's words, and there against back.
func mustBeRight(t *testing.T, a, b api.Stop) {
	t.Helper()
	far, back := plane.Far(a, b), plane.Far(b, a)
	if n := squared(a, b); !isRoot(far, n) || far != back {
		t.Errorf("Far(%+v, %+v): %d, back %d; its square should be %d or just above it", a, b, far, back, n)
	}
}

// mustBeFar asks for a number that is written out, there and back.
func mustBeFar(t *testing.T, a, b point, want int) {
	t.Helper()
	if far, back := plane.Far(at(a), at(b)), plane.Far(at(b), at(a)); far != want || back != want {
		t.Errorf("Far(%d, %d): %d, back %d; want %d", a, b, far, back, want)
	}
}

// mustHave asks for just this Matrix and this Near of x, and that x stays as it was.
func mustHave(t *testing.T, what string, x api.Instance, far [][]int, near []int) {
	t.Helper()
	before := clone(x)
	if got := plane.Matrix(x); !slices.EqualFunc(got, far, slices.Equal) {
		t.Errorf("%s: Matrix: %d; want %d", what, got, far)
	}
	if got := plane.Near(x); !slices.Equal(got, near) {
		t.Errorf("%s: Near: %d; want %d", what, got, near)
	}
	if !reflect.DeepEqual(x, before) {
		t.Errorf("%s: it is now %+v, it was %+v", what, x, before)
	}
}

// mustHaveRight holds Matrix and Near against P6.2's words.
func mustHaveRight(t *testing.T, what string, x api.Instance) {
	t.Helper()
	if !inst.May(x) {
		t.Fatalf("%s: no instance was made: %+v", what, x)
	}
	var far [][]int
	near := make([]int, len(x.Stops))
	for i, from := range x.Stops {
		far = append(far, nil)
		for _, to := range x.Stops {
			far[i] = append(far[i], plane.Far(from, to))
		}
	}
	for to := range x.Stops {
		for from := range x.Stops {
			first := from == 0 || to == 0 && from == 1
			if from != to && (first || far[from][to] < near[to]) {
				near[to] = far[from][to]
			}
		}
	}
	mustHave(t, what, x, far, near)
}

// P6.1, P6.2: the examples of the chapter, and the pair of those of the whole.
func TestExamples(t *testing.T) {
	mustBeFar(t, point{0, 0}, point{3, 4}, 5)
	mustBeFar(t, point{0, 0}, point{1, 1}, 2)
	mustHave(t, "the example", example(), [][]int{{0, 3, 4}, {3, 0, 5}, {4, 5, 0}}, []int{3, 3, 4})
}

// P6.1: written out, so that it does not hang on another way to reckon.
func TestFarWrittenOut(t *testing.T) {
	for _, c := range []struct {
		a, b point
		want int
	}{
		// Both at one place.
		{point{0, 0}, point{0, 0}, 0},
		{point{17, 4}, point{17, 4}, 0},
		{point{10000, 10000}, point{10000, 10000}, 0},
		// In X alone, in Y alone, in both.
		{point{0, 0}, point{1, 0}, 1},
		{point{0, 0}, point{0, 1}, 1},
		{point{5, 9}, point{12, 9}, 7},
		{point{5, 9}, point{5, 2}, 7},
		{point{0, 0}, point{10000, 0}, 10000},
		{point{0, 0}, point{0, 10000}, 10000},
		{point{10, 20}, point{13, 24}, 5},
		{point{10, 24}, point{13, 20}, 5},
		{point{9, 1}, point{1, 9}, 12},
		// From corner to corner.
		{point{0, 0}, point{10000, 10000}, 14143},
		{point{10000, 0}, point{0, 10000}, 14143},
		{point{0, 0}, point{9999, 10000}, 14142},
		{point{0, 0}, point{9999, 9999}, 14141},
		// A square, one less, one more.
		{point{0, 0}, point{5, 12}, 13},
		{point{0, 0}, point{6000, 8000}, 10000},
		{point{0, 0}, point{9996, 2800}, 10381},
		{point{0, 0}, point{2, 2}, 3},
		{point{0, 0}, point{4, 8}, 9},
		{point{0, 0}, point{7, 7}, 10},
		{point{0, 0}, point{5, 1}, 6},
		{point{0, 0}, point{1, 7}, 8},
		{point{0, 0}, point{10000, 1}, 10001},
		// What is below 0 counts as 0, what is above 10000 as 10000.
		{point{-1, 0}, point{0, 0}, 0},
		{point{0, -1}, point{0, 0}, 0},
		{point{-1, -1}, point{3, 4}, 5},
		{point{-1, 5}, point{1, 5}, 1},
		{point{-9, -9}, point{-1, -500}, 0},
		{point{10001, 3}, point{10000, 3}, 0},
		{point{3, 10001}, point{3, 10000}, 0},
		{point{10001, 10001}, point{9997, 9996}, 5},
		{point{10001, 20000}, point{99999, 10002}, 0},
		{point{-1, 10001}, point{10001, -1}, 14143},
		{point{-5, 99999}, point{0, 0}, 10000},
		{point{math.MinInt, math.MinInt}, point{math.MaxInt, math.MaxInt}, 14143},
		{point{math.MinInt, math.MaxInt}, point{math.MaxInt, math.MinInt}, 14143},
		{point{math.MinInt, 0}, point{math.MaxInt, 0}, 10000},
		{point{7, math.MinInt}, point{7, math.MaxInt}, 10000},
		{point{math.MaxInt, math.MaxInt}, point{math.MaxInt, math.MaxInt - 1}, 0},
		{point{math.MinInt, math.MinInt}, point{math.MinInt + 1, math.MinInt}, 0},
		{point{math.MinInt, math.MinInt}, point{3, 4}, 5},
		{point{math.MaxInt, math.MaxInt}, point{9997, 9996}, 5},
		{point{1<<32 + 7, 1 << 32}, point{10000, 9990}, 10},
	} {
		mustBeFar(t, c.a, c.b, c.want)
	}
}

// P6.1: all small differences, with both signs.
func TestFarSmall(t *testing.T) {
	middle := point{150, 200}
	for x := range 301 {
		for y := range 401 {
			mustBeRight(t, at(middle), at(point{x, y}))
		}
	}
}

// P6.1, P1: at edges of all four coordinates, each with each.
func TestFarAtEdges(t *testing.T) {
	for _, ax := range edges() {
		for _, ay := range edges() {
			for _, bx := range edges() {
				for _, by := range edges() {
					mustBeRight(t, at(point{ax, ay}), at(point{bx, by}))
				}
			}
		}
	}
}

// P6.1: in one of X and Y alone, by each number that there is.
func TestFarInOneAlone(t *testing.T) {
	for n := range 10001 {
		mustBeFar(t, point{0, 77}, point{n, 77}, n)
		mustBeFar(t, point{10000 - n, 3}, point{10000, 3}, n)
		mustBeFar(t, point{9, 0}, point{9, n}, n)
		mustBeFar(t, point{9999, 10000 - n}, point{9999, 10000}, n)
	}
}

// P6.1: where the squares together are a square, one less, and one more: there a root that is rounded would be seen.
func TestFarNearSquares(t *testing.T) {
	seen := map[int]int{}
	for x := range 10001 {
		for y := range x + 1 {
			n := x*x + y*y
			root := int(math.Round(math.Sqrt(float64(n))))
			by := n - root*root
			if by < -1 || by > 1 {
				continue
			}
			seen[by]++
			want := root
			if by == 1 {
				want++
			}
			mustBeFar(t, point{0, 0}, point{x, y}, want)
			mustBeFar(t, point{10000, y}, point{10000 - x, 0}, want)
		}
	}
	if seen[-1] < 500 || seen[0] < 500 || seen[1] < 500 {
		t.Errorf("too few of one kind: %v", seen)
	}
}

// P6.1: places that are spread out.
func TestFarSpreadOut(t *testing.T) {
	row := lcg(1)
	coord := func() int { return row.below(10401) - 200 }
	for range 200000 {
		mustBeRight(t, at(point{coord(), coord()}), at(point{coord(), coord()}))
	}
}

// P6.1: nothing of a stop but X and Y counts.
func TestFarAsksForNothingElse(t *testing.T) {
	for _, n := range edges() {
		for _, s := range []api.Stop{{Demand: n}, {Ready: n}, {Due: n}, {Service: n}, {Demand: n, Ready: n, Due: n, Service: n}} {
			a, b := s, api.Stop{X: 6, Y: 8}
			if far := plane.Far(a, b); far != 10 {
				t.Errorf("Far(%+v, %+v): %d, want 10", a, b, far)
			}
			a.X, a.Y = 9, 12
			if far := plane.Far(b, a); far != 5 {
				t.Errorf("Far(%+v, %+v): %d, want 5", b, a, far)
			}
		}
	}
}

// P6.2: the yard alone: there is no other stop.
func TestYardAlone(t *testing.T) {
	for _, p := range []point{{0, 0}, {5, 7}, {10000, 10000}} {
		mustHave(t, "the yard alone", through(p), [][]int{{0}}, []int{0})
	}
	mustHave(t, "the least instance", api.Instance{Cars: 1, Room: 1, Stops: []api.Stop{{}}}, [][]int{{0}}, []int{0})
}

// P6.2: two pairs, written out: no two numbers of a row are the same, so that each has just one place.
func TestTwoPairs(t *testing.T) {
	x := through(point{0, 0}, point{10, 0}, point{20, 1}, point{4, 9}, point{33, 40})
	mustHave(t, "two pairs", x, [][]int{
		{0, 10, 21, 10, 52},
		{10, 0, 11, 11, 47},
		{21, 11, 0, 18, 42},
		{10, 11, 18, 0, 43},
		{52, 47, 42, 43, 0},
	}, []int{10, 10, 11, 10, 42})
}

// P6.2: from 0 to 16 pairs, far from each other and on few places.
func TestPairs(t *testing.T) {
	row := lcg(2)
	for pairs := range 17 {
		for _, side := range []int{1, 2, 5, 30, 1000, 10001} {
			for turn := range 5 {
				mustHaveRight(t, fmt.Sprint(pairs, " pairs on ", side, " places a side, turn ", turn), scattered(&row, pairs, side))
			}
		}
	}
}

// P6.2: 16 pairs along a line, written out.
func TestSixteenPairs(t *testing.T) {
	var places []point
	far, near := make([][]int, 33), make([]int, 33)
	for i := range 33 {
		places = append(places, point{10000 - 100*i, 50})
		for to := range 33 {
			far[i] = append(far[i], 100*max(i-to, to-i))
		}
		near[i] = 100
	}
	mustHave(t, "16 pairs", through(places...), far, near)
}

// P6.2: stops that share a place: the nearest one is no way off, and only for them.
func TestSharedPlaces(t *testing.T) {
	p, q, r := point{3, 3}, point{3, 10}, point{300, 10}
	for _, c := range []struct {
		what   string
		places []point
		near   []int
	}{
		{"all at one place", []point{p, p, p, p, p}, []int{0, 0, 0, 0, 0}},
		{"the yard and the last one", []point{p, q, p}, []int{0, 7, 0}},
		{"the yard and the first one", []point{p, p, q}, []int{0, 0, 7}},
		{"a pair", []point{p, q, q}, []int{7, 0, 0}},
		{"two that are taken in", []point{p, q, q, r, p}, []int{0, 0, 0, 297, 0}},
		{"two that are brought", []point{p, r, q, p, p}, []int{0, 297, 7, 0, 0}},
	} {
		x := through(c.places...)
		mustHaveRight(t, c.what, x)
		if near := plane.Near(x); !slices.Equal(near, c.near) {
			t.Errorf("%s: Near: %d, want %d", c.what, near, c.near)
		}
	}
}

// P6.2: the nearest one is the first, one between, the last, or one of several; of each stop in its turn, whatever comes first on a route.
func TestNearestAnywhere(t *testing.T) {
	for _, pairs := range []int{1, 2, 5, 16} {
		stops := 2*pairs + 1
		for of := range stops {
			for nearest := range stops {
				for as := range stops {
					// Of 33 stops, each with each and each, there would be too many.
					if nearest == of || as == of || pairs == 16 && as != nearest {
						continue
					}
					var places []point
					for i := range stops {
						places = append(places, point{5000 + 100*i, 9000})
					}
					places[of], places[nearest], places[as] = point{0, 0}, point{30, 40}, point{0, 50}
					x := through(places...)
					if near := plane.Near(x); len(near) != stops || near[of] != 50 {
						t.Fatalf("%d pairs: Near: %d; want 50 of stop %d, from %d and %d", pairs, near, of, nearest, as)
					}
				}
			}
		}
	}
}

// P6.2: the nearest one is the one to where its own thing is brought, although that comes behind it.
func TestNearestIsBehind(t *testing.T) {
	x := through(point{0, 0}, point{100, 0}, point{110, 0})
	mustHave(t, "a pair", x, [][]int{{0, 100, 110}, {100, 0, 10}, {110, 10, 0}}, []int{100, 10, 10})
}

// P6.2: instances that differ in where their stops are alone, or in all else alone.
func TestOnlyPlacesCount(t *testing.T) {
	x := example()
	x.Cars, x.Room = 8, 1
	x.Stops[0].Due = 0
	x.Stops[1].Demand, x.Stops[1].Ready, x.Stops[1].Due, x.Stops[1].Service = 1000, 1<<20, 1<<20, 1000
	x.Stops[2].Demand = -1000
	mustHave(t, "other numbers", x, plane.Matrix(example()), plane.Near(example()))
	x.Stops[2].X, x.Stops[2].Y = 3, 7
	mustHave(t, "another place", x, [][]int{{0, 3, 8}, {3, 0, 7}, {8, 7, 0}}, []int{3, 3, 7})
}

// mustHaveNothing asks for noughts of what may not be, and that it stays as it was.
func mustHaveNothing(t *testing.T, what string, x api.Instance) {
	t.Helper()
	before := clone(x)
	if inst.May(x) {
		t.Fatalf("%s: it may be: %+v", what, x)
	}
	if far, near := plane.Matrix(x), plane.Near(x); len(far) != 0 || len(near) != 0 {
		t.Errorf("%s: Matrix: %d, Near: %d; want nothing", what, far, near)
	}
	if !reflect.DeepEqual(x, before) {
		t.Errorf("%s: it is now %+v, it was %+v", what, x, before)
	}
}

// P6.2, P1: instances that may not be.
func TestMayNotBe(t *testing.T) {
	mustHaveNothing(t, "noughts", api.Instance{})
	mustHaveNothing(t, "no stops", api.Instance{Cars: 1, Room: 1})
	mustHaveNothing(t, "a list without stops", api.Instance{Cars: 1, Room: 1, Stops: []api.Stop{}})
	mustHaveNothing(t, "17 pairs", scattered(new(lcg), 17, 100))
	mustHaveNothing(t, "one stop too many", api.Instance{Pairs: 1, Cars: 1, Room: 5, Stops: append(example().Stops, api.Stop{})})
	mustHaveNothing(t, "one stop too few", api.Instance{Pairs: 1, Cars: 1, Room: 5, Stops: example().Stops[:2]})
	mustHaveNothing(t, "2049 stops", api.Instance{Pairs: 1 << 10, Cars: 1, Room: 1, Stops: make([]api.Stop, 1<<11+1)})
	for _, pairs := range []int{-1, 0, 2, math.MinInt, math.MinInt + 1, math.MaxInt, 1<<62 + 1, 1<<32 + 1} {
		x := example()
		x.Pairs = pairs
		mustHaveNothing(t, fmt.Sprint(pairs, " pairs that should be 1"), x)
	}
}

// P6.2, P1: of an instance that may be, one number after the other is changed to one that may not be.
func TestOneNumberMayNotBe(t *testing.T) {
	for _, pairs := range []int{0, 1, 16} {
		for i := range 3 + 6*(2*pairs+1) {
			for _, n := range []int{math.MinInt, -1001, -1, 1<<20 + 1, 1<<32 + 1, math.MaxInt} {
				x := scattered(new(lcg), pairs, 100)
				l := []*int{&x.Pairs, &x.Cars, &x.Room}
				for k := range x.Stops {
					s := &x.Stops[k]
					l = append(l, &s.X, &s.Y, &s.Demand, &s.Ready, &s.Due, &s.Service)
				}
				*l[i] = n
				mustHaveNothing(t, fmt.Sprint("number ", i, " of ", pairs, " pairs: ", n), x)
			}
		}
	}
}

// P6.2: where Far would count a coordinate as another one, there is no instance, and nothing is told of it.
func TestPlacesOutside(t *testing.T) {
	for _, n := range edges() {
		for i := range 3 {
			x, y := example(), example()
			x.Stops[i].X, y.Stops[i].Y = n, n
			for _, z := range []api.Instance{x, y} {
				if n >= 0 && n <= 10000 {
					mustHaveRight(t, fmt.Sprint("stop ", i, " at ", n), z)
				} else {
					mustHaveNothing(t, fmt.Sprint("stop ", i, " at ", n), z)
				}
			}
		}
	}
}

// mustFollow asks for all of P6.3 of three stops, in this order.
func mustFollow(t *testing.T, a, b, c api.Stop) {
	t.Helper()
	there, back := plane.Far(a, b), plane.Far(b, a)
	if there != back {
		t.Errorf("from %+v to %+v it is %d, back %d", a, b, there, back)
	}
	if one := squared(a, b) == 0; (there == 0) != one {
		t.Errorf("from %+v to %+v it is %d; they are at one place: %t", a, b, there, one)
	}
	if by := plane.Far(a, c) + plane.Far(c, b); there > by {
		t.Errorf("from %+v to %+v it is %d, by %+v %d", a, b, there, c, by)
	}
}

// P6.3: places near the corners, and outside of them, three by three.
func TestFollowsAtEdges(t *testing.T) {
	var stops []api.Stop
	for _, x := range []int{math.MinInt, -1, 0, 1, 2, 9999, 10000, 10001, math.MaxInt} {
		for _, y := range []int{-1, 0, 1, 5000, 10000, 10001} {
			stops = append(stops, at(point{x, y}))
		}
	}
	for _, a := range stops {
		for _, b := range stops {
			for _, c := range stops {
				mustFollow(t, a, b, c)
			}
		}
	}
}

// P6.3: three places that are spread out, and such on one line, where by the third it is as far but for what is rounded.
func TestFollowsSpreadOut(t *testing.T) {
	row := lcg(3)
	for range 50000 {
		a, b := point{row.below(10001), row.below(10001)}, point{row.below(10001), row.below(10001)}
		mustFollow(t, at(a), at(b), at(point{row.below(10001), row.below(10001)}))
		step, more, less := point{row.below(50), row.below(50)}, row.below(100), row.below(100)
		c := point{a[0] + more*step[0], a[1] + more*step[1]}
		mustFollow(t, at(a), at(point{c[0] + less*step[0], c[1] + less*step[1]}), at(c))
		mustFollow(t, at(a), at(point{a[0] + row.below(5), a[1] + row.below(5)}), at(point{a[0] + row.below(5), a[1] + row.below(5)}))
	}
}

// P6.3: of an instance's Matrix, and what Near has to do with it.
func TestMatrixFollows(t *testing.T) {
	row := lcg(4)
	for range 200 {
		x := scattered(&row, 1+row.below(16), []int{3, 40, 10001}[row.below(3)])
		far, near := plane.Matrix(x), plane.Near(x)
		for i := range far {
			for k := range far {
				if far[i][k] != far[k][i] {
					t.Errorf("from %d to %d it is %d, back %d; of %+v", i, k, far[i][k], far[k][i], x)
				}
				if one := squared(x.Stops[i], x.Stops[k]) == 0; (far[i][k] == 0) != one {
					t.Errorf("from %d to %d it is %d; of %+v", i, k, far[i][k], x)
				}
				for by := range far {
					if far[i][k] > far[i][by]+far[by][k] {
						t.Errorf("from %d to %d it is %d, by %d less; of %+v", i, k, far[i][k], by, x)
					}
				}
				if i != k && near[k] > far[i][k] {
					t.Errorf("Near of %d is %d, but from %d it is %d; of %+v", k, near[k], i, far[i][k], x)
				}
			}
		}
	}
}

// R3: no row shares anything with another one, also behind its end, nor one answer with another one.
func TestRowsShareNothing(t *testing.T) {
	for _, pairs := range []int{0, 1, 16} {
		x := scattered(new(lcg), pairs, 100)
		want, other := plane.Matrix(x), plane.Matrix(x)
		for i := range want {
			far := plane.Matrix(x)
			whole := far[i][:cap(far[i])]
			for k := range whole {
				whole[k] = -7
			}
			far[i] = nil
			for k := range far {
				if k != i && !slices.Equal(far[k], want[k]) {
					t.Errorf("%d pairs: a change of row %d made row %d %d, it was %d", pairs, i, k, far[k], want[k])
				}
			}
		}
		near, again := plane.Near(x), plane.Near(x)
		was := slices.Clone(near)
		for i := range again[:cap(again)] {
			again[:cap(again)][i] = -7
		}
		if !slices.Equal(near, was) || !slices.EqualFunc(want, other, slices.Equal) {
			t.Errorf("%d pairs: a change of one answer made another one", pairs)
		}
		mustHaveRight(t, fmt.Sprint(pairs, " pairs"), x)
	}
}

// R3: what is handed in stays as it was, behind its stops, too, and what is answered shares nothing with it.
func TestInstanceSharesNothing(t *testing.T) {
	behind := api.Stop{X: 6, Y: 5, Demand: 4, Ready: 3, Due: 2, Service: 1}
	x := example()
	whole := append(x.Stops, behind)
	x.Stops = whole[:3]
	far, near := plane.Matrix(x), plane.Near(x)
	if !reflect.DeepEqual(x, example()) || whole[3] != behind {
		t.Fatalf("the stops are %+v now", whole)
	}
	for i := range whole {
		whole[i] = api.Stop{X: 9, Y: 9, Demand: 9, Ready: 9, Due: 9, Service: 9}
	}
	if !slices.EqualFunc(far, [][]int{{0, 3, 4}, {3, 0, 5}, {4, 5, 0}}, slices.Equal) || !slices.Equal(near, []int{3, 3, 4}) {
		t.Errorf("a change of the stops made Matrix %d, Near %d", far, near)
	}
	x = example()
	for _, l := range append(plane.Matrix(x), plane.Near(x)) {
		for i := range l {
			l[i] = -7
		}
	}
	if !reflect.DeepEqual(x, example()) {
		t.Errorf("a change of the answer made the instance %+v", x)
	}
}

// R5: no answer hangs on what was asked before.
func TestAskedAgain(t *testing.T) {
	row := lcg(5)
	for range 20 {
		plane.Matrix(scattered(&row, 16, 10001))
		plane.Near(scattered(&row, 3, 10))
		plane.Matrix(api.Instance{Pairs: 3})
		plane.Far(at(point{math.MaxInt, 3}), at(point{}))
		TestExamples(t)
		mustHaveNothing(t, "noughts", api.Instance{})
	}
}
